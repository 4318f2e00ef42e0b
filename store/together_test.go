package store

import (
	"fmt"
	"maps"
	"slices"
	"strings"
	"testing"

	"patches/api"
)

// wantPull: the answer, that o stays as it is, and that s does too if it is refused.
func wantPull(t *testing.T, s, o *Store, want api.Errno) {
	t.Helper()
	ours, theirs := state(s), state(o)
	if e := s.Pull(o); e != want {
		t.Errorf("Pull = %d, want %d", e, want)
	}
	if after := state(s); want != api.OK && after != ours {
		t.Errorf("behind the refused Pull: %s, was %s", after, ours)
	}
	if after := state(o); s != o && after != theirs {
		t.Errorf("the store that was pulled from: %s, was %s", after, theirs)
	}
}

func wantBundle(t *testing.T, s *Store, want string) {
	t.Helper()
	if got := s.Bundle(); got != want {
		t.Errorf("Bundle() = %q, want %q", got, want)
	}
}

func wantLoad(t *testing.T, text string, want api.Errno) {
	t.Helper()
	s, e := Load(text)
	if e != want || (s == nil) != (want != api.OK) {
		t.Errorf("Load(%.80q) = %v, %d, want %d", text, s, e, want)
		return
	}
	if s != nil {
		wantBundle(t, s, text)
	}
}

// several: a store of n patches with a line each, named from first on.
func several(t *testing.T, first, n int) *Store {
	t.Helper()
	s := New()
	for id := first; id < first+n; id++ {
		if e := s.Apply(adding(id, 1)); e != api.OK {
			t.Fatalf("patch %d = %d", id, e)
		}
	}
	return s
}

func TestPull(t *testing.T) {
	two, three := "patch 2\nneeds 1\nadd 1.0 1.1 x\n", "patch 3\nneeds 1\nadd 1.0 1.1 y\n"
	s, o := filled(t, base, two), New()
	wantPull(t, o, New(), api.OK)
	wantLog(t, o)
	wantPull(t, s, o, api.OK)
	wantLog(t, s, 1, 2)
	wantPull(t, s, s, api.OK)
	wantLog(t, s, 1, 2)
	wantPull(t, o, s, api.OK)
	wantLog(t, o, 1, 2)
	wantText(t, o, 1, base)
	wantText(t, o, 2, two)
	wantPast(t, o, 2, 1)
	wantPull(t, o, s, api.OK)
	wantLog(t, o, 1, 2)
	if e := o.Apply(three); e != api.OK {
		t.Errorf("Apply behind Pull = %d", e)
	}
	wantPull(t, o, s, api.OK)
	wantLog(t, o, 1, 2, 3)
	wantLog(t, s, 1, 2)
}

func TestPullFromEachOther(t *testing.T) {
	a := filled(t, base)
	b := New()
	wantPull(t, b, a, api.OK)
	if e := a.Apply("patch 2\nneeds 1\nadd 1.0 1.1 x\n"); e != api.OK {
		t.Errorf("Apply = %d", e)
	}
	if e := b.Apply("patch 3\nneeds 1\nadd 1.0 1.1 y\n"); e != api.OK {
		t.Errorf("Apply = %d", e)
	}
	wantPull(t, a, b, api.OK)
	wantPull(t, b, a, api.OK)
	for _, s := range []*Store{a, b} {
		wantShown(t, s, []string{" a", "<", "|x", "=", "|y", ">", " b", " c"}, []int{1, 2, 3, 1, 1})
	}
	if state(a) != state(b) || a.Bundle() != b.Bundle() {
		t.Errorf("%s, the other %s", state(a), state(b))
	}
}

// What a patch needs has a greater name here, and comes in the same pull.
func TestPullWithFallingNames(t *testing.T) {
	s := filled(t, adding(6, 1))
	o := filled(t, adding(9, 2), "patch 5\nneeds 9\ndel 9.1\nadd 9.0 $ y\n", "patch 2\nneeds 5\ndel 5.0\n")
	wantPull(t, s, o, api.OK)
	wantLog(t, s, 2, 5, 6, 9)
	wantPast(t, s, 2, 5, 9)
	wantUnapply(t, s, 9, api.ErrLeans)
}

func TestPullClashes(t *testing.T) {
	s := filled(t, base, adding(5, 1), adding(9, 1))
	wantPull(t, s, filled(t, adding(1, 3)), api.ErrClash)
	wantPull(t, s, filled(t, adding(5, 2)), api.ErrClash)
	wantPull(t, s, filled(t, "patch 9\nneeds\nadd ^ $ X\n"), api.ErrClash)
	wantPull(t, s, filled(t, adding(2, 1), adding(3, 1), "patch 9\nneeds 3\nadd ^ $ x\n"), api.ErrClash)
	wantPull(t, s, filled(t, base, adding(5, 1), adding(6, 1), "patch 9\nneeds 1 5\nadd ^ $ x\n"), api.ErrClash)
	wantPull(t, filled(t, adding(1, 3)), s, api.ErrClash)
	wantPull(t, s, filled(t, base, adding(4, 1), adding(9, 1)), api.OK)
	wantLog(t, s, 1, 4, 5, 9)
}

// A clash is named ahead of want of room.
func TestPullClashesWhenFull(t *testing.T) {
	full := several(t, 1, api.MaxPatches)
	wantPull(t, full, filled(t, adding(20, 2), adding(21, 1)), api.ErrClash)
	wantPull(t, full, filled(t, adding(21, 1), adding(1, 2)), api.ErrClash)
	lines := filled(t, adding(1, 30), adding(2, 30), adding(3, 30))
	wantPull(t, lines, filled(t, adding(3, 29)), api.ErrClash)
	wantPull(t, lines, filled(t, adding(3, 29), adding(4, 1)), api.ErrClash)
}

func TestPullFullOfPatches(t *testing.T) {
	s := several(t, 1, 12)
	wantPull(t, s, several(t, 13, 9), api.ErrFull)
	wantPull(t, s, several(t, 2, api.MaxPatches), api.ErrFull)
	wantPull(t, s, several(t, 13, 8), api.OK)
	wantLog(t, s, 1, 2, 3, 4, 5, 6, 7, 8, 9, 10, 11, 12, 13, 14, 15, 16, 17, 18, 19, 20)
	wantPull(t, s, s, api.OK)
	wantPull(t, s, several(t, 20, 1), api.OK)
	wantPull(t, s, New(), api.OK)
	wantPull(t, s, several(t, 20, 2), api.ErrFull)
	wantPull(t, s, several(t, 21, 1), api.ErrFull)
	both := several(t, 1, 12)
	wantPull(t, both, several(t, 1, api.MaxPatches), api.OK)
	wantLog(t, both, s.Log()...)
	all := New()
	wantPull(t, all, s, api.OK)
	wantLog(t, all, s.Log()...)
}

func TestPullFullOfLines(t *testing.T) {
	s := filled(t, adding(1, 30), adding(2, 20), "patch 8\nneeds 1\ndel 1.0\ndel 1.1\n")
	wantPull(t, s, filled(t, adding(3, 30), adding(4, 11)), api.ErrFull)
	wantPull(t, s, filled(t, adding(3, 30), adding(4, 10), adding(5, 1)), api.ErrFull)
	wantPull(t, s, filled(t, adding(1, 30), adding(3, 30), adding(4, 11)), api.ErrFull)
	wantLog(t, s, 1, 2, 8)
	o := filled(t, adding(1, 30), adding(3, 30), adding(4, 10))
	wantPull(t, s, o, api.OK)
	wantLog(t, s, 1, 2, 3, 4, 8)
	wantPull(t, s, filled(t, adding(5, 1)), api.ErrFull)
	wantPull(t, s, filled(t, adding(4, 10), "patch 5\nneeds 4\ndel 4.9\n"), api.OK)
	wantPull(t, s, s, api.OK)
	wantLog(t, s, 1, 2, 3, 4, 5, 8)
}

// Behind a pull each store goes its own way.
func TestPulledStoresAreApart(t *testing.T) {
	s, o := New(), filled(t, base, adding(2, 1), "patch 4\nneeds 1 2\nadd 1.0 2.0 y\n")
	wantPull(t, s, o, api.OK)
	before := state(s)
	wantUnapply(t, o, 4, api.OK)
	wantUnapply(t, o, 2, api.OK)
	if e := o.Apply(adding(2, 5)); e != api.OK {
		t.Errorf("Apply = %d", e)
	}
	if e := o.Apply(adding(3, 5)); e != api.OK {
		t.Errorf("Apply = %d", e)
	}
	if after := state(s); after != before {
		t.Errorf("behind changes of the other store: %s, was %s", after, before)
	}
	wantPull(t, s, o, api.ErrClash)
	before = state(o)
	wantUnapply(t, s, 4, api.OK)
	wantUnapply(t, s, 1, api.OK)
	if e := s.Apply(adding(1, 7)); e != api.OK {
		t.Errorf("Apply = %d", e)
	}
	if after := state(o); after != before {
		t.Errorf("behind changes of the store that pulled: %s, was %s", after, before)
	}
}

func TestPullFromNoStore(t *testing.T) {
	s := filled(t, base)
	before := state(s)
	if e := s.Pull(nil); e != api.OK || state(s) != before {
		t.Errorf("Pull(nil) = %d, %s, was %s", e, state(s), before)
	}
}

func TestBundle(t *testing.T) {
	wantBundle(t, New(), "")
	wantBundle(t, filled(t, base), base)
	five, two, three := "patch 5\nneeds\nadd ^ $ e\n", "patch 2\nneeds 5\nadd 5.0 $ f\n", "patch 3\nneeds 1 2\nadd 1.2 2.0 g\n"
	eleven, ten := "patch 11\nneeds\nadd ^ $ k\n", "patch 10\nneeds 3 11\ndel 11.0\n"
	for _, order := range [][]string{{base, five, two, three, eleven, ten}, {eleven, five, two, base, three, ten}, {five, two, eleven, base, three, ten}} {
		s := filled(t, order...)
		wantBundle(t, s, base+five+two+three+eleven+ten)
		wantBundle(t, s, base+five+two+three+eleven+ten)
		wantUnapply(t, s, 10, api.OK)
		wantBundle(t, s, base+five+two+three+eleven)
	}
}

func TestLoad(t *testing.T) {
	five, two, three := "patch 5\nneeds\nadd ^ $ e\n", "patch 2\nneeds 5\nadd 5.0 $ f\n", "patch 3\nneeds 1 2\nadd 1.2 2.0 patch 9\n"
	for _, c := range []struct {
		text string
		want api.Errno
	}{
		{"", api.OK}, {base, api.OK}, {base + five, api.OK}, {five + two, api.OK}, {base + five + two + three, api.OK},
		{five + base, api.ErrForm}, {base + adding(3, 1) + adding(2, 1), api.ErrForm}, {five + base + two + three, api.ErrForm}, {five + two + base, api.ErrForm}, {base + adding(7, 1) + five, api.ErrForm},
		{base + base, api.ErrTwice}, {five + base + base, api.ErrTwice}, {base + five + two + five, api.ErrTwice}, {base + five + two + three + two, api.ErrTwice},
		{base + adding(1, 3), api.ErrClash}, {adding(1, 3) + base, api.ErrClash},
		{two + five, api.ErrNeeds}, {two, api.ErrNeeds}, {base + five + three + two, api.ErrNeeds},
		{base + "patch 2\nneeds 1\ndel 1.3\n", api.ErrLine},
		{"patch 1\nneeds\ndel 1.0\n", api.ErrForm}, {base + "patch 2\nneeds\ndel 1.0\n", api.ErrForm},
		{"x", api.ErrText}, {"\n", api.ErrText}, {"\n" + base, api.ErrText}, {"x\n" + base, api.ErrText}, {"x" + base, api.ErrText}, {" " + base, api.ErrText}, {base[1:], api.ErrText}, {"needs\nadd ^ $ a\n" + base, api.ErrText},
		{base + "\n", api.ErrText}, {base + "\n" + five, api.ErrText}, {base + "x", api.ErrText}, {base[:len(base)-1], api.ErrText}, {base + "patch ", api.ErrText}, {base + "patch 5", api.ErrText}, {base + "patch\n" + five, api.ErrText},
		{base + "patch 5\n" + five, api.ErrText}, {"patch 5\n" + base, api.ErrText}, {strings.ReplaceAll(base+five, "\n", "\r\n"), api.ErrText},
	} {
		wantLoad(t, c.text, c.want)
	}
}

// The error is that of the first part that is refused, whatever comes behind it.
func TestLoadTellsTheFirstRefusal(t *testing.T) {
	wrong := []struct {
		text string
		want api.Errno
	}{
		{"patch 2\n", api.ErrText},
		{"patch 2\nneeds\ndel 1.0\n", api.ErrForm},
		{base, api.ErrTwice},
		{adding(1, 3), api.ErrClash},
		{"patch 2\nneeds 4\nadd ^ $ x\n", api.ErrNeeds},
		{"patch 2\nneeds 1\ndel 1.3\n", api.ErrLine},
	}
	for _, a := range wrong {
		for _, b := range wrong {
			wantLoad(t, base+a.text+b.text, a.want)
			wantLoad(t, base+a.text+adding(7, 1)+b.text, a.want)
			wantLoad(t, adding(7, 1)+base+a.text+b.text, a.want)
		}
	}
}

func TestLoadFull(t *testing.T) {
	whole := several(t, 1, api.MaxPatches).Bundle()
	wantLoad(t, whole, api.OK)
	wantLoad(t, whole+adding(21, 1), api.ErrFull)
	wantLoad(t, whole+adding(20, 1)+adding(21, 1), api.ErrTwice)
	lines := adding(1, 30) + adding(2, 30) + adding(3, 30)
	wantLoad(t, lines, api.OK)
	wantLoad(t, lines+"patch 4\nneeds 3\ndel 3.0\n", api.OK)
	wantLoad(t, lines+adding(4, 1), api.ErrFull)
}

// Just at the bound the parts are looked at; one byte more, and they are not.
func TestLoadPastTheBound(t *testing.T) {
	bound := api.MaxPatches * api.MaxText
	for _, c := range []struct {
		text string
		want api.Errno
	}{{base + base, api.ErrTwice}, {base + adding(1, 3), api.ErrClash}, {base + "patch 2\nneeds 1\ndel 1.3\n", api.ErrLine}} {
		behind := "patch " + strings.Repeat("x", bound-len(c.text)-len("patch "))
		wantLoad(t, c.text+behind, c.want)
		wantLoad(t, c.text+behind+"x", api.ErrText)
		wantLoad(t, c.text+behind+strings.Repeat(base, 10000), api.ErrText)
	}
	wantLoad(t, strings.Repeat("patch \n", bound/7), api.ErrText)
	wantLoad(t, strings.Repeat("\n", bound), api.ErrText)
}

// A store's bundle is loaded, however long the texts of its patches are.
func TestLoadLongTexts(t *testing.T) {
	s := filled(t, "patch 9000\nneeds\nadd ^ $ twelve bytes\nadd ^ $ twelve bytes\n")
	needs := " 9000"
	for id := 9001; id < 9000+api.MaxPatches; id++ {
		x := fmt.Sprintf("patch %d\nneeds%s\n%s", id, needs, strings.Repeat("tie 9000.0 9000.1\n", api.MaxChanges-4))
		x += strings.Repeat("add 9000.0 9000.1 twelve bytes\n", 4)
		if e := s.Apply(x); e != api.OK {
			t.Fatalf("Apply(%q) = %d", x, e)
		}
		needs += fmt.Sprint(" ", id)
	}
	wantLoad(t, s.Bundle(), api.OK)
}

func TestLoadedStoreIsLikeTheFirst(t *testing.T) {
	s := filled(t, adding(5, 2), base, "patch 2\nneeds 1 5\nadd 1.0 5.1 x\ndel 5.0\n", "patch 3\nneeds 1\nadd 1.0 1.1 y\n")
	l, e := Load(s.Bundle())
	if e != api.OK {
		t.Fatalf("Load = %d", e)
	}
	if state(l) != state(s) || !slices.Equal(l.Show(), s.Show()) {
		t.Errorf("%s, %q, want %s, %q", state(l), l.Show(), state(s), s.Show())
	}
	before := state(s)
	wantUnapply(t, l, 3, api.OK)
	if e := l.Apply(adding(3, 1)); e != api.OK {
		t.Errorf("Apply = %d", e)
	}
	if after := state(s); after != before {
		t.Errorf("behind changes of the loaded store: %s, was %s", after, before)
	}
	wantPull(t, l, s, api.ErrClash)
}

func (m model) pull(o model) api.Errno {
	lines, all := 0, maps.Clone(m)
	for id, x := range o {
		if m[id] != "" && m[id] != x {
			return api.ErrClash
		}
		all[id] = x
	}
	for _, x := range all {
		lines += linesOf(x)
	}
	if len(all) > 20 || lines > 90 {
		return api.ErrFull
	}
	maps.Copy(m, o)
	return api.OK
}

func (m model) bundle() string {
	all, left := "", maps.Clone(m)
	for len(left) > 0 {
		least := 10000
		for id := range left {
			if !slices.ContainsFunc(needsOf(left[id]), func(n int) bool { return left[n] != "" }) {
				least = min(least, id)
			}
		}
		all += left[least]
		delete(left, least)
	}
	return all
}

// load: the texts, none of which holds another's beginning, as the parts of a bundle.
func load(texts []string) (model, api.Errno) {
	m := model{}
	for _, x := range texts {
		if e := m.apply(x); e != api.OK {
			return nil, e
		}
	}
	if m.bundle() != strings.Join(texts, "") {
		return nil, api.ErrForm
	}
	return m, api.OK
}

// some: the patches of a model that are left when a few have gone, and some that came instead, of
// whose names each leaves one of these rests when it is divided by 2.
func (d *dice) some(from model, rests ...int) model {
	m := maps.Clone(from)
	for n := d.roll(6); n > 0; n-- {
		m.unapply(d.roll(28))
	}
	for n := d.roll(200); n > 0; n-- {
		if x := d.text(m.log()); slices.Contains(rests, nameOf(x)%2) {
			m.apply(x)
		}
	}
	return m
}

func TestPullAgainstTheModel(t *testing.T) {
	d := &dice{state: 3}
	var seen [13]int
	for run := 0; run < 400; run++ {
		common := d.some(model{}, 0, 1)
		m, o := d.some(common, 0, 1), d.some(common, 0, 1)
		if run%2 == 0 {
			m, o = d.some(common, 0), d.some(common, 1) // they clash but seldom
		}
		s, other := d.shuffled(t, m), d.shuffled(t, o)
		want := m.pull(o)
		wantPull(t, s, other, want)
		agree(t, s, m)
		agree(t, other, o)
		wantBundle(t, s, m.bundle())
		if want == api.OK && len(o) < len(m) {
			wantPull(t, other, s, api.OK)
			agree(t, other, m)
			wantBundle(t, other, m.bundle())
		}
		seen[want]++
		if t.Failed() {
			t.FailNow()
		}
	}
	for _, e := range []api.Errno{api.OK, api.ErrClash, api.ErrFull} {
		if seen[e] < 40 {
			t.Errorf("error %d came only %d times: the test shows too little", e, seen[e])
		}
	}
}

// spoilt: the texts of a bundle, mostly with a few that are moved, doubled, left out or otherwise.
func (d *dice) spoilt(m model) []string {
	texts := strings.SplitAfter(m.bundle(), "\npatch ")
	for k := range texts {
		texts[k] = strings.TrimSuffix(texts[k], "patch ")
		if k > 0 {
			texts[k] = "patch " + texts[k]
		}
	}
	for n := d.roll(4); n > 0 && len(texts) > 0; n-- {
		a, b := d.roll(len(texts)), d.roll(len(texts))
		switch d.roll(6) {
		case 0:
			texts[a], texts[b] = texts[b], texts[a]
		case 1:
			texts = slices.Insert(texts, b, texts[a])
		case 2:
			texts = slices.Delete(texts, a, a+1)
		default:
			texts = slices.Insert(texts, a, d.text(m.log()))
		}
	}
	return texts
}

func TestLoadAgainstTheModel(t *testing.T) {
	d := &dice{state: 8}
	var seen [13]int
	for run := 0; run < 1000; run++ {
		first := d.some(model{}, 0, 1)
		if len(first) == 0 {
			continue
		}
		texts := d.spoilt(first)
		m, want := load(texts)
		s, e := Load(strings.Join(texts, ""))
		if e != want || (s == nil) != (e != api.OK) {
			t.Fatalf("Load(%q) = %v, %d, want %d", texts, s, e, want)
		}
		if s != nil {
			agree(t, s, m)
			wantBundle(t, s, strings.Join(texts, ""))
		}
		seen[e]++
	}
	for _, e := range []api.Errno{api.OK, api.ErrForm, api.ErrTwice, api.ErrClash, api.ErrNeeds} {
		if seen[e] < 20 {
			t.Errorf("error %d came only %d times: the test shows too little", e, seen[e])
		}
	}
}
