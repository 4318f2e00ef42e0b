package store

import (
	"fmt"
	"slices"
	"strconv"
	"strings"
	"testing"

	"patches/api"
)

// model: the same promises, told by plain means that share nothing with the program.
type model map[int]string

func words(text string, row int) []string {
	return strings.Split(strings.Split(text, "\n")[row], " ")
}

func nameOf(text string) int {
	id, _ := strconv.Atoi(words(text, 0)[1])
	return id
}

func needsOf(text string) []int {
	var needs []int
	for _, w := range words(text, 1)[1:] {
		id, _ := strconv.Atoi(w)
		needs = append(needs, id)
	}
	return needs
}

func linesOf(text string) int { return strings.Count(text, "\nadd ") }

// spoken: the lines of which each change speaks, as pairs of numbers.
func spoken(text string) [][][2]int {
	var all [][][2]int
	rows := strings.Split(strings.TrimSuffix(text, "\n"), "\n")
	for k := 2; k < len(rows); k++ {
		var of [][2]int
		for _, w := range words(text, k)[1:min(3, len(words(text, k)))] {
			var r [2]int
			if n, _ := fmt.Sscanf(w, "%d.%d", &r[0], &r[1]); n == 2 {
				of = append(of, r)
			}
		}
		all = append(all, of)
	}
	return all
}

func (m model) formed(text string) bool {
	id, needs := nameOf(text), needsOf(text)
	rising := slices.Clone(needs)
	slices.Sort(rising)
	if !slices.Equal(slices.Compact(rising), needs) || slices.Contains(needs, id) {
		return false
	}
	own := 0
	for k, of := range spoken(text) {
		kind := words(text, k+2)[0]
		for _, r := range of {
			if r[0] == id && (r[1] >= own || kind == "del") || r[0] != id && !slices.Contains(needs, r[0]) {
				return false
			}
		}
		if kind == "tie" && of[0] == of[1] {
			return false
		}
		if kind == "add" {
			own++
		}
	}
	return true
}

func (m model) apply(text string) api.Errno {
	id := nameOf(text)
	lines := linesOf(text)
	for _, x := range m {
		lines += linesOf(x)
	}
	switch {
	case !m.formed(text):
		return api.ErrForm
	case m[id] == text:
		return api.ErrTwice
	case m[id] != "":
		return api.ErrClash
	case slices.ContainsFunc(needsOf(text), func(n int) bool { return m[n] == "" }):
		return api.ErrNeeds
	case slices.ContainsFunc(slices.Concat(spoken(text)...), func(r [2]int) bool { return r[0] != id && r[1] >= linesOf(m[r[0]]) }):
		return api.ErrLine
	case len(m) == 20 || lines > 90:
		return api.ErrFull
	}
	m[id] = text
	return api.OK
}

func (m model) past(id int) []int {
	var past []int
	for _, n := range needsOf(m[id]) {
		past = append(append(past, n), m.past(n)...)
	}
	slices.Sort(past)
	return slices.Compact(past)
}

func (m model) unapply(id int) api.Errno {
	if m[id] == "" {
		return api.ErrNone
	}
	for other := range m {
		if slices.Contains(m.past(other), id) {
			return api.ErrLeans
		}
	}
	delete(m, id)
	return api.OK
}

func (m model) log() []int {
	var names []int
	for id := range m {
		names = append(names, id)
	}
	slices.Sort(names)
	return names
}

// dice: the same rolls in each run.
type dice struct{ state uint64 }

func (d *dice) roll(n int) int {
	d.state = d.state*6364136223846793005 + 1442695040888963407
	return int(d.state>>33) % n
}

func (d *dice) line(id int, known []int) string {
	of := d.roll(27) + 1
	if k := d.roll(len(known) + 2); d.roll(15) > 0 {
		of = id
		if k < len(known) {
			of = known[k]
		}
	}
	return fmt.Sprintf("%d.%d", of, d.roll(3))
}

func (d *dice) text(applied []int) string {
	id := d.roll(27) + 1
	var needs []int
	for _, n := range applied {
		if d.roll(6) == 0 && (n != id || d.roll(4) == 0) {
			needs = append(needs, n)
		}
	}
	if d.roll(12) == 0 {
		needs = append(needs, d.roll(27)+1)
	}
	needs = needs[:min(len(needs), api.MaxNeeds)]
	t := "patch " + strconv.Itoa(id) + "\nneeds"
	for _, n := range needs {
		t += " " + strconv.Itoa(n)
	}
	t += "\n"
	for n := d.roll(8); n >= 0; n-- {
		switch d.roll(8) {
		case 0:
			t += "del " + d.line(id, needs) + "\n"
		case 1:
			t += "tie " + d.line(id, needs) + " " + d.line(id, needs) + "\n"
		case 2:
			t += "add " + d.line(id, needs) + " " + d.line(id, needs) + " x y\n"
		default:
			t += "add ^ $ x\n"
		}
	}
	return t
}

func agree(t *testing.T, s *Store, m model) {
	t.Helper()
	if !slices.Equal(s.Log(), m.log()) {
		t.Fatalf("Log() = %v, want %v", s.Log(), m.log())
	}
	for id := 0; id <= 28; id++ {
		e := api.OK
		if m[id] == "" {
			e = api.ErrNone
		}
		if x, f := s.Text(id); x != m[id] || f != e {
			t.Fatalf("Text(%d) = %q, %d, want %q, %d", id, x, f, m[id], e)
		}
		var past []int
		if e == api.OK {
			past = m.past(id)
		}
		if l, f := s.Past(id); !slices.Equal(l, past) || f != e {
			t.Fatalf("Past(%d) = %v, %d, want %v, %d", id, l, f, past, e)
		}
	}
}

func TestAgainstTheModel(t *testing.T) {
	d := &dice{state: 5}
	var seen [13]int
	for run := 0; run < 60; run++ {
		s, m := New(), model{}
		for step := 0; step < 150; step++ {
			if d.roll(7) == 0 {
				id := d.roll(29)
				e, f := m.unapply(id), s.Unapply(id)
				if e != f {
					t.Fatalf("Unapply(%d) = %d, want %d, in %v", id, f, e, m)
				}
				seen[e]++
			} else {
				x := d.text(m.log())
				if old := m[nameOf(x)]; old != "" && d.roll(3) == 0 {
					x = old
				}
				e, f := m.apply(x), s.Apply(x)
				if e != f {
					t.Fatalf("Apply(%q) = %d, want %d, in %v", x, f, e, m)
				}
				seen[e]++
			}
			agree(t, s, m)
		}
		shows, credit, _ := m.sketch().show()
		wantShown(t, s, shows, credit)
	}
	for _, e := range []api.Errno{api.OK, api.ErrForm, api.ErrTwice, api.ErrClash, api.ErrNeeds, api.ErrLine, api.ErrFull, api.ErrNone, api.ErrLeans} {
		if seen[e] < 20 {
			t.Errorf("error %d came only %d times: the test shows too little", e, seen[e])
		}
	}
}
