package store

import (
	"cmp"
	"fmt"
	"maps"
	"slices"
	"strconv"
	"strings"
	"testing"

	"patches/api"
)

// sketch: what a set of texts means, told by plain means that share nothing with the program.
type sketch struct {
	names []string // of the alive lines, by their numbers
	text  map[string]string
	put   map[string][]string // the lines that a line was put behind and ahead of
	next  map[string][]string // what the changes themselves say that it leads to
	dead  map[string][]int    // the patches that tell it dead
	pasts map[int][]int
	known map[[2]string]bool // what leads has answered
}

func parts(name string) (p, i int) {
	a, b, _ := strings.Cut(name, ".")
	p, _ = strconv.Atoi(a)
	i, _ = strconv.Atoi(b)
	return p, i
}

func byName(a, b string) int {
	p, i := parts(a)
	q, j := parts(b)
	return cmp.Or(cmp.Compare(p, q), cmp.Compare(i, j))
}

func isLine(word string) bool { return word != "^" && word != "$" }

func (m model) sketch() *sketch {
	k := &sketch{text: map[string]string{}, put: map[string][]string{}, next: map[string][]string{}, dead: map[string][]int{}, pasts: map[int][]int{}, known: map[[2]string]bool{}}
	for id, text := range m {
		k.pasts[id] = m.past(id)
		own := 0
		for _, row := range strings.Split(strings.TrimSuffix(text, "\n"), "\n")[2:] {
			w := strings.SplitN(row, " ", 4)
			switch w[0] {
			case "add":
				name := fmt.Sprintf("%d.%d", id, own)
				own++
				k.names = append(k.names, name)
				k.text[name] = w[3]
				k.put[name] = slices.DeleteFunc([]string{w[1], w[2]}, func(x string) bool { return !isLine(x) })
				k.next[w[1]] = append(k.next[w[1]], name)
				k.next[name] = append(k.next[name], w[2])
			case "del":
				k.dead[w[1]] = append(k.dead[w[1]], id)
			case "tie":
				k.next[w[1]] = append(k.next[w[1]], w[2])
			}
		}
	}
	delete(k.next, "^")
	k.names = slices.DeleteFunc(k.names, func(x string) bool { return len(k.dead[x]) > 0 })
	slices.SortFunc(k.names, byName)
	return k
}

func (k *sketch) leads(a, b string) bool {
	answer, ok := k.known[[2]string{a, b}]
	if !ok {
		answer = k.reaches(a, b)
		k.known[[2]string{a, b}] = answer
	}
	return answer
}

// reaches: by walking, at most once over each line.
func (k *sketch) reaches(a, b string) bool {
	seen := map[string]bool{}
	var walk func(x string) bool
	walk = func(x string) bool {
		for _, y := range k.next[x] {
			if y == b {
				return true
			}
			if !seen[y] {
				seen[y] = true
				if walk(y) {
					return true
				}
			}
		}
		return false
	}
	return walk(a)
}

func (k *sketch) ahead(a, b string) bool { return a != b && k.leads(a, b) && !k.leads(b, a) }

func (k *sketch) settled(a string) bool {
	return !slices.ContainsFunc(k.names, func(b string) bool { return a != b && !k.ahead(a, b) && !k.ahead(b, a) })
}

func (k *sketch) mark(a string) string {
	own, _ := parts(a)
	for _, n := range k.put[a] {
		for _, d := range k.dead[n] {
			if d != own && !slices.Contains(k.pasts[own], d) && !slices.Contains(k.pasts[d], own) {
				return "!"
			}
		}
	}
	if slices.ContainsFunc(k.names, func(b string) bool { return a != b && k.leads(a, b) && k.leads(b, a) }) {
		return "@"
	}
	if !k.settled(a) {
		return "|"
	}
	return " "
}

// amount: how many of these are ahead of a.
func (k *sketch) amount(of []string, a string) int {
	n := 0
	for _, b := range of {
		if k.ahead(b, a) {
			n++
		}
	}
	return n
}

// strands: lists that touch are laid together as long as two do.
func (k *sketch) strands(block []string) [][]string {
	var all [][]string
	for _, a := range block {
		all = append(all, []string{a})
	}
	for again := true; again; {
		again = false
		for i := 0; i < len(all) && !again; i++ {
			for j := i + 1; j < len(all) && !again; j++ {
				if slices.ContainsFunc(all[i], func(a string) bool {
					return slices.ContainsFunc(all[j], func(b string) bool { return k.leads(a, b) || k.leads(b, a) })
				}) {
					all[i] = append(all[i], all[j]...)
					all = slices.Delete(all, j, j+1)
					again = true
				}
			}
		}
	}
	slices.SortFunc(all, func(a, b []string) int { return byName(slices.MinFunc(a, byName), slices.MinFunc(b, byName)) })
	for _, strand := range all {
		slices.SortFunc(strand, func(a, b string) int {
			return cmp.Or(cmp.Compare(k.amount(k.names, a), k.amount(k.names, b)), byName(a, b))
		})
	}
	return all
}

func (k *sketch) show() (shows []string, credit []int, order []string) {
	give := func(a string) {
		p, _ := parts(a)
		shows, credit, order = append(shows, k.mark(a)+k.text[a]), append(credit, p), append(order, a)
	}
	var settled, other []string
	for _, a := range k.names {
		if k.settled(a) {
			settled = append(settled, a)
		} else {
			other = append(other, a)
		}
	}
	for n := 0; n <= len(settled); n++ {
		var block []string
		for _, a := range other {
			if k.amount(settled, a) == n {
				block = append(block, a)
			}
		}
		for i, strand := range k.strands(block) {
			shows = append(shows, []string{"<", "="}[min(i, 1)])
			for _, a := range strand {
				give(a)
			}
		}
		if len(block) > 0 {
			shows = append(shows, ">")
		}
		for _, a := range settled {
			if k.amount(settled, a) == n {
				give(a)
			}
		}
	}
	return shows, credit, order
}

// around: a place for a new line among the known lines, which stand as they are shown: mostly
// between two neighbours, so that files come out that are not all conflict.
func (d *dice) around(known []string) (up, down string) {
	ends := append(append([]string{"^"}, known...), "$")
	i := d.roll(len(ends) - 1)
	j := i + 1
	if d.roll(8) == 0 {
		j = i + 1 + d.roll(len(ends)-1-i)
	}
	if d.roll(30) == 0 && len(known) > 0 {
		return known[d.roll(len(known))], known[d.roll(len(known))]
	}
	return ends[i], ends[j]
}

// edit: a patch that somebody makes who knows the patches that it needs, and no others.
func (d *dice) edit(m model, id int) string {
	var needs []int
	if log := m.log(); len(log) > 0 {
		for n := 1 + d.roll(2); n > 0; n-- {
			needs = append(needs, log[d.roll(len(log))])
		}
	}
	seen := model{}
	for _, n := range needs {
		for _, p := range append(m.past(n), n) {
			seen[p] = m[p]
		}
	}
	_, _, known := seen.sketch().show()
	for _, gone := range slices.SortedFunc(maps.Keys(seen.sketch().dead), byName) {
		if d.roll(6) == 0 {
			known = slices.Insert(known, d.roll(len(known)+1), gone)
		}
	}
	text, own := "", 0
	for n := d.roll(4); n >= 0; n-- {
		a := d.roll(max(1, len(known)))
		b := d.roll(max(1, len(known)))
		p := 0
		if len(known) > 0 {
			p, _ = parts(known[a])
		}
		switch {
		case d.roll(4) == 0 && len(known) > 0 && p != id:
			text += "del " + known[a] + "\n"
		case d.roll(6) == 0 && a != b:
			if d.roll(4) > 0 {
				a, b = min(a, b), max(a, b)
			}
			text += "tie " + known[a] + " " + known[b] + "\n"
		default:
			up, down := d.around(known)
			text += fmt.Sprintf("add %s %s %c\n", up, down, 'a'+byte(d.roll(26)))
			at := max(0, slices.Index(known, up)+1)
			known = slices.Insert(known, at, fmt.Sprintf("%d.%d", id, own))
			own++
		}
	}
	all := slices.Sorted(slices.Values(seen.log()))
	head := fmt.Sprintf("patch %d\nneeds", id)
	for _, n := range all {
		if slices.Contains(needs, n) || slices.ContainsFunc(slices.Concat(spoken("patch 1\nneeds\n"+text)...), func(r [2]int) bool { return r[0] == n }) {
			head += fmt.Sprint(" ", n)
		}
	}
	return head + "\n" + text
}

// shuffled: a store of the same patches that come in another order.
func (d *dice) shuffled(t *testing.T, m model) *Store {
	s := New()
	for left := m.log(); len(left) > 0; {
		k := d.roll(len(left))
		if e := s.Apply(m[left[k]]); e == api.OK {
			left = slices.Delete(left, k, k+1)
		} else if e != api.ErrNeeds {
			t.Fatalf("Apply(%q) = %d", m[left[k]], e)
		}
	}
	return s
}

// kinds: what has been met, so that the test can tell whether it shows enough.
func (k *sketch) kinds(shows []string, seen map[string]int) {
	all := strings.Join(shows, "\n") + "\n"
	for _, sign := range []string{"!", "@", "|", "=", "<"} {
		if strings.Contains("\n"+all, "\n"+sign) {
			seen[sign]++
		}
	}
	if strings.Count("\n"+all, "\n<\n") > 1 {
		seen["two blocks"]++
	}
	if !strings.ContainsAny(all, "!@|") && len(shows) > 2 {
		seen["clean"]++
	}
	if strings.Contains(all, "\n!") && !strings.Contains(all, "<") {
		seen["orphans alone"]++
	}
	if len(k.dead) > 0 {
		seen["dead"]++
	}
}

func TestShowAgainstTheSketch(t *testing.T) {
	d := &dice{state: 11}
	seen := map[string]int{}
	for run := 0; run < 500; run++ {
		s, m := New(), model{}
		for _, id := range []int{7, 12, 3, 10, 9, 4, 100, 1}[:1+d.roll(8)] {
			x := d.edit(m, id)
			if e, f := m.apply(x), s.Apply(x); e != api.OK || f != api.OK {
				t.Fatalf("Apply(%q) = %d, want %d, in %v", x, f, e, m)
			}
			k := m.sketch()
			shows, credit, _ := k.show()
			wantShown(t, s, shows, credit)
			k.kinds(shows, seen)
		}
		shows, credit, _ := m.sketch().show()
		wantShown(t, d.shuffled(t, m), shows, credit)
		if t.Failed() {
			t.FailNow()
		}
	}
	for _, kind := range []string{"!", "@", "|", "=", "<", "two blocks", "clean", "orphans alone", "dead"} {
		if seen[kind] < 50 {
			t.Errorf("%q came only %d times: the test shows too little", kind, seen[kind])
		}
	}
}
