package store

import (
	"fmt"
	"slices"
	"strings"
	"testing"

	"patches/api"
)

// longest: the length of a longest common part of lines of have that may stay, and of lines.
func (k *sketch) longest(have, lines []string, known map[[2]int]int) int {
	if len(have) == 0 || len(lines) == 0 {
		return 0
	}
	at := [2]int{len(have), len(lines)}
	if n, ok := known[at]; ok {
		return n
	}
	n := max(k.longest(have[1:], lines, known), k.longest(have, lines[1:], known))
	if k.mayStay(have[0]) && k.text[have[0]] == lines[0] {
		n = max(n, 1+k.longest(have[1:], lines[1:], known))
	}
	known[at] = n
	return n
}

func (k *sketch) mayStay(name string) bool { return k.mark(name) == " " || k.mark(name) == "|" }

// stays: the names of the lines that stay, each at its place in lines, and empty texts.
func (k *sketch) stays(have, lines []string) []string {
	names, known := make([]string, len(lines)), map[[2]int]int{}
	for i, j := 0, 0; i < len(have) && j < len(lines); {
		if k.mayStay(have[i]) && k.text[have[i]] == lines[j] {
			names[j] = have[i]
			i, j = i+1, j+1
		} else if k.longest(have[i+1:], lines[j:], known) >= k.longest(have[i:], lines[j+1:], known) {
			i++
		} else {
			j++
		}
	}
	return names
}

func (m model) record(id int, lines []string) (string, api.Errno) {
	if id < 1 || id > 9999 || len(lines) > 24 || slices.ContainsFunc(lines, func(x string) bool {
		return len(x) > 12 || strings.ContainsFunc(x, func(r rune) bool { return r < 32 || r > 126 })
	}) {
		return "", api.ErrArg
	}
	if m[id] != "" {
		return "", api.ErrTwice
	}
	k := m.sketch()
	_, _, have := k.show()
	names := k.stays(have, lines)
	var rows []string
	needs := map[string]bool{}
	for _, x := range have {
		if !slices.Contains(names, x) {
			rows = append(rows, "del "+x)
			for y, beside := range k.put {
				if slices.Contains(beside, x) {
					needs[y] = true
				}
			}
		}
	}
	own, ahead, stayed := 0, "^", false
	for j, x := range lines {
		if names[j] == "" {
			down := "$"
			for _, y := range names[j:] {
				if y != "" {
					down = y
					break
				}
			}
			rows = append(rows, "add "+ahead+" "+down+" "+x)
			ahead, stayed = fmt.Sprintf("%d.%d", id, own), false
			own++
		} else {
			if stayed && !k.leads(ahead, names[j]) {
				rows = append(rows, "tie "+ahead+" "+names[j])
			}
			ahead, stayed = names[j], true
		}
	}
	return put(id, rows, needs)
}

// put: the patch of these changes, which needs the patches of these lines and of those of which it
// speaks.
func put(id int, rows []string, lines map[string]bool) (string, api.Errno) {
	if len(rows) > 30 {
		return "", api.ErrFull
	}
	if len(rows) == 0 {
		return "", api.ErrSame
	}
	for _, row := range rows {
		for _, x := range strings.SplitN(row, " ", 4)[1:min(3, len(strings.Split(row, " ")))] {
			lines[x] = isLine(x)
		}
	}
	var needs []int
	for x, is := range lines {
		if p, _ := parts(x); is && p != id {
			needs = append(needs, p)
		}
	}
	slices.Sort(needs)
	text := fmt.Sprintf("patch %d\nneeds", id)
	for _, n := range slices.Compact(needs) {
		text += fmt.Sprint(" ", n)
	}
	return text + "\n" + strings.Join(rows, "\n") + "\n", api.OK
}

// narrow: the same patch with but a few letters, so that lines are like each other.
func narrow(text string, letters int) string {
	rows := strings.Split(text, "\n")
	for k, row := range rows {
		if w := strings.SplitN(row, " ", 4); len(w) == 4 && w[0] == "add" && len(w[3]) == 1 {
			rows[k] = fmt.Sprintf("add %s %s %c", w[1], w[2], 'a'+(w[3][0]-'a')%byte(letters))
		}
	}
	return strings.Join(rows, "\n")
}

// wish: the lines, mostly with a few changes.
func (d *dice) wish(lines []string, letters int) []string {
	lines = slices.Clone(lines)
	some := func() string { return string(rune('a' + d.roll(letters))) }
	if d.roll(8) == 0 {
		lines = nil
	}
	for n := d.roll(7); n > 0; n-- {
		a := d.roll(len(lines) + 1)
		switch kind := d.roll(5); {
		case kind == 0 || a == len(lines):
			lines = slices.Insert(lines, a, some())
		case kind == 1:
			lines[a] = some()
		case kind == 2:
			b := d.roll(len(lines))
			lines[a], lines[b] = lines[b], lines[a]
		case kind == 3:
			lines = slices.Insert(slices.Delete(lines, a, a+1), d.roll(len(lines)), some())
		default:
			lines = slices.Delete(lines, a, a+1)
		}
	}
	return lines
}

// told: what kinds of answers came, so that the test can tell whether it shows enough.
func told(text string, e api.Errno, shows []string, seen map[string]int) {
	seen[fmt.Sprint("error ", e)]++
	for _, kind := range []string{"del", "add", "tie"} {
		if strings.Contains(text, "\n"+kind) {
			seen[kind]++
		}
	}
	if e != api.OK {
		return
	}
	for _, sign := range "!@|" {
		if slices.ContainsFunc(shows, func(x string) bool { return x[0] == byte(sign) }) {
			seen["behind "+string(sign)]++
		}
	}
	for _, n := range needsOf(text) {
		if !slices.ContainsFunc(slices.Concat(spoken(text)...), func(r [2]int) bool { return r[0] == n }) {
			seen["needs by neighbours alone"]++
			break
		}
	}
}

// wantAsTold: what the model says, and P9.
func wantAsTold(t *testing.T, s *Store, m model, id int, lines []string, seen map[string]int) {
	t.Helper()
	text, e := m.record(id, lines)
	wantRecord(t, s, id, lines, text, e)
	told(text, e, s.Show(), seen)
}

func textsOf(m model) []string {
	k := m.sketch()
	_, _, order := k.show()
	var all []string
	for _, x := range order {
		all = append(all, k.text[x])
	}
	return all
}

// part: the patches that somebody knows who has not got all of them.
func (d *dice) part(m model) model {
	known := model{}
	for _, id := range m.log() {
		if d.roll(3) > 0 {
			for _, p := range append(m.past(id), id) {
				known[p] = m[p]
			}
		}
	}
	return known
}

// People edit and record, each knowing some of the patches, and their patches come together.
func TestRecordAgainstTheModel(t *testing.T) {
	d := &dice{state: 17}
	seen := map[string]int{}
	for run := 0; run < 500; run++ {
		s, m := New(), model{}
		letters := []int{2, 3, 5, 26}[run%4]
		for _, id := range []int{7, 12, 3, 10, 9, 4, 100, 1}[:1+d.roll(8)] {
			x := narrow(d.edit(m, id), letters)
			if d.roll(2) == 0 {
				known := d.part(m)
				lines := d.wish(textsOf(known), letters)
				wantAsTold(t, d.shuffled(t, known), known, id, lines, seen)
				if y, e := known.record(id, lines); e == api.OK {
					x = y
				}
			}
			if e, f := m.apply(x), s.Apply(x); e != api.OK || f != api.OK {
				t.Fatalf("Apply(%q) = %d, want %d, in %v", x, f, e, m)
			}
			wantAsTold(t, s, m, []int{2, 2, 5, 50, 9999, 7, 0, 10000}[d.roll(8)], d.wish(textsOf(m), letters), seen)
			wantAsTold(t, s, m, 8, textsOf(m), seen)
			if t.Failed() {
				t.FailNow()
			}
		}
	}
	wantSeen(t, seen, "error 0", "error 3", "error 11", "error 12", "del", "add", "tie", "behind !", "behind @", "behind |", "needs by neighbours alone")
}

func wantSeen(t *testing.T, seen map[string]int, kinds ...string) {
	t.Helper()
	for _, kind := range kinds {
		if seen[kind] < 50 {
			t.Errorf("%q came only %d times: the test shows too little", kind, seen[kind])
		}
	}
}

// Stores with many lines, most of them in conflict, and some without room.
func TestRecordOfWildStores(t *testing.T) {
	d := &dice{state: 23}
	seen := map[string]int{}
	for run := 0; run < 150; run++ {
		m := d.some(model{}, 0, 1)
		s := d.shuffled(t, m)
		for n := 0; n < 3; n++ {
			lines := slices.Repeat([]string{"x"}, d.roll(26))
			for k := range lines {
				lines[k] = []string{"x", "x", "x", "x y", "y"}[d.roll(5)]
			}
			wantAsTold(t, s, m, 28+d.roll(2), lines, seen)
			if t.Failed() {
				t.FailNow()
			}
		}
	}
	wantSeen(t, seen, "error 0", "error 7", "del", "add", "tie", "behind |")
}
