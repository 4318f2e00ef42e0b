package store

import (
	"fmt"
	"math"
	"slices"
	"strings"
	"testing"

	"patches/api"
)

const base = "patch 1\nneeds\nadd ^ $ a\nadd 1.0 $ b\nadd 1.1 $ c\n"

// filled: a store with these patches.
func filled(t *testing.T, texts ...string) *Store {
	t.Helper()
	s := New()
	for _, x := range texts {
		if e := s.Apply(x); e != api.OK {
			t.Fatalf("Apply(%q) = %d", x, e)
		}
	}
	return s
}

// adding: the text of a patch without needs that adds n lines.
func adding(id, n int) string {
	return fmt.Sprintf("patch %d\nneeds\n%s", id, strings.Repeat("add ^ $ x\n", n))
}

// state: all that Log, Text and Past say of a store.
func state(s *Store) string {
	all := fmt.Sprint(s.Log())
	for _, id := range s.Log() {
		text, e := s.Text(id)
		past, f := s.Past(id)
		all += fmt.Sprintf("\n%d: %q %d %v %d", id, text, e, past, f)
	}
	return all
}

func wantLog(t *testing.T, s *Store, names ...int) {
	t.Helper()
	if got := s.Log(); !slices.Equal(got, names) {
		t.Errorf("Log() = %v, want %v", got, names)
	}
}

func wantPast(t *testing.T, s *Store, id int, names ...int) {
	t.Helper()
	if got, e := s.Past(id); e != api.OK || !slices.Equal(got, names) {
		t.Errorf("Past(%d) = %v, %d, want %v", id, got, e, names)
	}
}

func wantText(t *testing.T, s *Store, id int, text string) {
	t.Helper()
	if got, e := s.Text(id); e != api.OK || got != text {
		t.Errorf("Text(%d) = %q, %d, want %q", id, got, e, text)
	}
}

// wantRefused: the error, and that nothing changed.
func wantRefused(t *testing.T, s *Store, text string, want api.Errno) {
	t.Helper()
	before := state(s)
	if e := s.Apply(text); e != want {
		t.Errorf("Apply(%.80q) = %d, want %d", text, e, want)
	}
	if after := state(s); after != before {
		t.Errorf("behind the refusal of %.80q: %s, was %s", text, after, before)
	}
}

func wantUnapply(t *testing.T, s *Store, id int, want api.Errno) {
	t.Helper()
	before := state(s)
	if e := s.Unapply(id); e != want {
		t.Errorf("Unapply(%d) = %d, want %d", id, e, want)
	}
	if after := state(s); want != api.OK && after != before {
		t.Errorf("behind the refused Unapply(%d): %s, was %s", id, after, before)
	}
}

func TestNewIsEmpty(t *testing.T) {
	s := New()
	if len(s.Log()) != 0 {
		t.Errorf("Log() = %v", s.Log())
	}
	wantUnapply(t, s, 1, api.ErrNone)
}

func TestApplyAndTexts(t *testing.T) {
	later := "patch 3\nneeds 1\nadd 1.0 1.1 \nadd ^ $  12 bytes  \ntie 3.0 3.1\ndel 1.2\n"
	s := filled(t, base, later)
	wantLog(t, s, 1, 3)
	wantText(t, s, 1, base)
	wantText(t, s, 3, later)
	for _, id := range []int{-1, 0, 2, 4, 9999, 10000, math.MaxInt, math.MinInt} {
		if x, e := s.Text(id); x != "" || e != api.ErrNone {
			t.Errorf("Text(%d) = %q, %d", id, x, e)
		}
	}
}

func TestApplyRefuses(t *testing.T) {
	one := "patch 1\nneeds\nadd ^ $ a\n"
	for _, c := range []struct {
		text string
		want api.Errno
	}{
		{"patch 2\nneeds\n", api.ErrText}, {"patch 02\nneeds\ndel 1.0\n", api.ErrText}, {"patch 2\nneeds 1\nadd ^ $ thirteen byte\n", api.ErrText},
		{"patch 2\nneeds 1\nadd $ ^ x\n", api.ErrText}, {"patch 2\nneeds 1\ndel ^\n", api.ErrText}, {"", api.ErrText}, {one + one, api.ErrText},
		{strings.Repeat("x", api.MaxText+1), api.ErrText}, {strings.Repeat(one, 50000), api.ErrText},
		{"patch 2\nneeds\ndel 1.0\n", api.ErrForm}, {"patch 2\nneeds 2\nadd ^ $ x\n", api.ErrForm}, {"patch 2\nneeds 1\nadd ^ 2.0 x\n", api.ErrForm},
		{"patch 2\nneeds 1\nadd ^ $ x\ndel 2.0\n", api.ErrForm}, {"patch 2\nneeds 1\ntie 1.0 1.0\n", api.ErrForm},
		{one, api.ErrTwice},
		{"patch 1\nneeds\nadd ^ $ b\n", api.ErrClash}, {"patch 1\nneeds\nadd ^ $ a\nadd ^ $ a\n", api.ErrClash}, {"patch 1\nneeds\nadd ^ $ \n", api.ErrClash},
		{"patch 3\nneeds 2\nadd ^ $ b\n", api.ErrNeeds}, {"patch 3\nneeds 1 2\nadd ^ $ b\n", api.ErrNeeds}, {"patch 3\nneeds 1 9999\nadd ^ $ b\n", api.ErrNeeds},
		{"patch 3\nneeds 1\ndel 1.1\n", api.ErrLine}, {"patch 3\nneeds 1\ndel 1.9999\n", api.ErrLine}, {"patch 3\nneeds 1\nadd 1.1 $ x\n", api.ErrLine},
		{"patch 3\nneeds 1\nadd ^ 1.1 x\n", api.ErrLine}, {"patch 3\nneeds 1\ntie 1.0 1.1\n", api.ErrLine}, {"patch 3\nneeds 1\ntie 1.1 1.0\n", api.ErrLine},
		{"patch 3\nneeds 1\nadd ^ $ x\nadd ^ $ x\ndel 1.1\n", api.ErrLine},
	} {
		wantRefused(t, filled(t, one), c.text, c.want)
	}
}

// Only changes that add count as lines of a patch.
func TestLinesOfTheOtherPatch(t *testing.T) {
	two := "patch 2\nneeds 1\ndel 1.0\nadd ^ $ p\ntie 1.1 1.2\nadd ^ $ q\n"
	s := filled(t, base, two)
	wantRefused(t, s, "patch 3\nneeds 2\ndel 2.2\n", api.ErrLine)
	wantRefused(t, s, "patch 3\nneeds 1 2\ntie 2.1 1.3\n", api.ErrLine)
	if e := s.Apply("patch 3\nneeds 1 2\ndel 2.1\ndel 1.0\nadd 1.0 2.0 x\ntie 2.1 1.2\n"); e != api.OK {
		t.Errorf("Apply of a patch that speaks of the last lines and of a dead one = %d", e)
	}
}

func TestErrorNamedFirst(t *testing.T) {
	s := filled(t, base)
	wantRefused(t, s, "patch 1\nneeds 1\nadd ^ $ x", api.ErrText)                 // not well formed, if it were a text; another text of that name
	wantRefused(t, s, "patch 2\nneeds 2 1\ndel 3.0\nadd ^ $\n", api.ErrText)      // not well formed, if it were a text
	wantRefused(t, s, "patch 1\nneeds\nadd ^ $ x\ndel 1.0\n", api.ErrForm)        // another text of that name
	wantRefused(t, s, "patch 2\nneeds 7\ndel 7.0\ntie 7.1 7.1\n", api.ErrForm)    // 7 is not applied
	wantRefused(t, s, "patch 1\nneeds 7\nadd ^ $ x\n", api.ErrClash)              // 7 is not applied
	wantRefused(t, s, "patch 2\nneeds 1 7\ndel 1.3\n", api.ErrNeeds)              // 1 has no line 3
	wantRefused(t, s, "patch 2\nneeds 1\ndel 1.3\nadd ^ 2.0 x\n", api.ErrForm)    // 1 has no line 3
	wantRefused(t, s, "patch 2\nneeds 1 7\nadd ^ $ 1234567890123\n", api.ErrText) // 7 is not applied
	clashing := filled(t, base, "patch 2\nneeds 1\ndel 1.0\n")
	wantRefused(t, clashing, "patch 2\nneeds 1\ndel 1.3\n", api.ErrClash) // 1 has no line 3
}

func TestErrorNamedFirstWhenFull(t *testing.T) {
	s := New()
	for id := 1; id <= api.MaxPatches; id++ {
		if e := s.Apply(adding(id, 1)); e != api.OK {
			t.Fatalf("patch %d = %d", id, e)
		}
	}
	wantRefused(t, s, "patch 21\nneeds\nadd ^ $\n", api.ErrText)
	wantRefused(t, s, "patch 21\nneeds\ndel 1.0\n", api.ErrForm)
	wantRefused(t, s, adding(20, 1), api.ErrTwice)
	wantRefused(t, s, adding(20, 2), api.ErrClash)
	wantRefused(t, s, "patch 21\nneeds 22\nadd ^ $ x\n", api.ErrNeeds)
	wantRefused(t, s, "patch 21\nneeds 20\ndel 20.1\n", api.ErrLine)
	wantRefused(t, s, "patch 21\nneeds 20\ndel 20.0\n", api.ErrFull)
}

func TestFullOfPatches(t *testing.T) {
	s := New()
	for id := 40; id > 40-api.MaxPatches; id-- {
		if e := s.Apply(adding(id, 1)); e != api.OK {
			t.Fatalf("patch %d = %d", id, e)
		}
	}
	wantRefused(t, s, adding(1, 1), api.ErrFull)
	wantRefused(t, s, adding(9999, 1), api.ErrFull)
	wantUnapply(t, s, 30, api.OK)
	if e := s.Apply(adding(1, 1)); e != api.OK {
		t.Errorf("Apply where one has gone = %d", e)
	}
	wantRefused(t, s, adding(30, 1), api.ErrFull)
}

func TestFullOfLines(t *testing.T) {
	s := filled(t, adding(1, 30), adding(2, 30), adding(3, 29))
	wantRefused(t, s, adding(4, 2), api.ErrFull)
	wantRefused(t, s, adding(4, 30), api.ErrFull)
	if e := s.Apply(adding(4, 1)); e != api.OK {
		t.Errorf("the ninetieth line: %d", e)
	}
	wantRefused(t, s, adding(5, 1), api.ErrFull)
	if e := s.Apply("patch 6\nneeds 1\ndel 1.0\ndel 1.1\n"); e != api.OK {
		t.Errorf("a patch without lines behind ninety: %d", e)
	}
	wantRefused(t, s, adding(5, 1), api.ErrFull)
	wantUnapply(t, s, 4, api.OK)
	if e := s.Apply(adding(5, 1)); e != api.OK {
		t.Errorf("a line where one has gone: %d", e)
	}
}

func TestGreatestPatch(t *testing.T) {
	s := New()
	text := "patch 9999\nneeds"
	for id := 9900; id < 9900+api.MaxPatches-1; id++ {
		if e := s.Apply(adding(id, 1)); e != api.OK {
			t.Fatalf("patch %d = %d", id, e)
		}
		text += fmt.Sprint(" ", id)
	}
	text += "\n"
	for k := 0; k < api.MaxChanges; k++ {
		text += "add 9900.0 9901.0 twelve bytes\n"
	}
	if e := s.Apply(text); e != api.OK {
		t.Errorf("Apply = %d", e)
	}
	wantText(t, s, 9999, text)
}

func TestUnapply(t *testing.T) {
	s := filled(t, base, "patch 3\nneeds 1\nadd 1.0 1.1 p\n", "patch 2\nneeds 1\nadd 1.0 1.1 r\n", "patch 4\nneeds 2 3\ntie 3.0 2.0\n")
	for _, id := range []int{1, 2, 3} {
		wantUnapply(t, s, id, api.ErrLeans)
	}
	for _, id := range []int{5, 0, -1, 10000, math.MaxInt, math.MinInt} {
		wantUnapply(t, s, id, api.ErrNone)
	}
	wantUnapply(t, s, 4, api.OK)
	wantUnapply(t, s, 4, api.ErrNone)
	wantLog(t, s, 1, 2, 3)
	wantUnapply(t, s, 2, api.OK)
	wantUnapply(t, s, 1, api.ErrLeans)
	wantLog(t, s, 1, 3)
	wantUnapply(t, s, 3, api.OK)
	wantUnapply(t, s, 1, api.OK)
	wantLog(t, s)
	if x, e := s.Text(1); x != "" || e != api.ErrNone {
		t.Errorf("Text of a patch that is gone = %q, %d", x, e)
	}
	if l, e := s.Past(1); len(l) != 0 || e != api.ErrNone {
		t.Errorf("Past of a patch that is gone = %v, %d", l, e)
	}
}

// The names say nothing about who leans on whom.
func TestUnapplyWithFallingNames(t *testing.T) {
	s := filled(t, adding(9, 1), "patch 5\nneeds 9\nadd ^ $ x\n", "patch 2\nneeds 5\nadd ^ $ x\n")
	wantUnapply(t, s, 9, api.ErrLeans)
	wantUnapply(t, s, 5, api.ErrLeans)
	wantUnapply(t, s, 2, api.OK)
	wantUnapply(t, s, 9, api.ErrLeans)
	wantUnapply(t, s, 5, api.OK)
	wantUnapply(t, s, 9, api.OK)
}

func TestComesBackOtherwise(t *testing.T) {
	s := filled(t, base, adding(2, 1))
	wantRefused(t, s, adding(2, 3), api.ErrClash)
	wantUnapply(t, s, 2, api.OK)
	if e := s.Apply(adding(2, 3)); e != api.OK {
		t.Errorf("Apply of another text where one has gone = %d", e)
	}
	wantText(t, s, 2, adding(2, 3))
	if e := s.Apply("patch 3\nneeds 2\ndel 2.2\n"); e != api.OK {
		t.Errorf("Apply behind it = %d", e)
	}
}

func TestPast(t *testing.T) {
	s := filled(t, base, adding(30, 1), "patch 20\nneeds 30\nadd ^ $ x\n", "patch 3\nneeds 1 20\nadd ^ $ x\n", "patch 25\nneeds 1 30\nadd ^ $ x\n", "patch 10\nneeds 3 25\ntie 3.0 25.0\n", "patch 2\nneeds 10\nadd ^ $ x\n")
	wantLog(t, s, 1, 2, 3, 10, 20, 25, 30)
	wantPast(t, s, 1)
	wantPast(t, s, 30)
	wantPast(t, s, 20, 30)
	wantPast(t, s, 3, 1, 20, 30)
	wantPast(t, s, 25, 1, 30)
	wantPast(t, s, 10, 1, 3, 20, 25, 30)
	wantPast(t, s, 2, 1, 3, 10, 20, 25, 30)
	for _, id := range []int{-1, 0, 4, 9999, 10000, math.MaxInt, math.MinInt} {
		if l, e := s.Past(id); len(l) != 0 || e != api.ErrNone {
			t.Errorf("Past(%d) = %v, %d", id, l, e)
		}
	}
}

// Every patch needs all ahead of it, so that there are very many ways from the last to the first.
func TestPastWithManyWays(t *testing.T) {
	s := New()
	var names []int
	needs := ""
	for id := 1; id <= api.MaxPatches; id++ {
		if e := s.Apply(fmt.Sprintf("patch %d\nneeds%s\nadd ^ $ x\n", id, needs)); e != api.OK {
			t.Fatalf("patch %d = %d", id, e)
		}
		wantPast(t, s, id, names...)
		needs += fmt.Sprint(" ", id)
		names = append(names, id)
	}
}

func TestOrderOfComingLeavesNoTrace(t *testing.T) {
	two, three, four := "patch 2\nneeds 1\nadd 1.0 1.1 r\n", "patch 3\nneeds 1\nadd 1.0 1.1 p\n", "patch 4\nneeds 2 3\ntie 3.0 2.0\n"
	a := state(filled(t, base, two, three, four))
	b := state(filled(t, base, three, two, four))
	if a != b {
		t.Errorf("%s, otherwise %s", a, b)
	}
}

// soil: writes into the list and into the room behind its end.
func soil(list []int) []int {
	all := list[:cap(list)]
	for k := range all {
		all[k] = -7
	}
	return all
}

func TestListsAreTheCallers(t *testing.T) {
	s := filled(t, base, "patch 2\nneeds 1\nadd ^ $ x\n", "patch 3\nneeds 2\nadd ^ $ x\n", "patch 5\nneeds 1 2 3\nadd ^ $ x\n")
	before := state(s)
	log := soil(s.Log())
	past, _ := s.Past(5)
	past = soil(past)
	direct, _ := s.Past(2)
	direct = soil(direct)
	if after := state(s); after != before {
		t.Errorf("behind the caller's writing: %s, was %s", after, before)
	}
	if e := s.Apply("patch 4\nneeds 5\nadd ^ $ x\n"); e != api.OK {
		t.Errorf("Apply behind the caller's writing = %d", e)
	}
	wantPast(t, s, 4, 1, 2, 3, 5)
	wantUnapply(t, s, 4, api.OK)
	for _, list := range [][]int{log, past, direct} {
		for _, n := range list {
			if n != -7 {
				t.Errorf("somebody wrote into the caller's list: %v", list)
			}
		}
	}
}

func TestStoresAreApart(t *testing.T) {
	a, b := filled(t, base), New()
	wantLog(t, b)
	if e := b.Apply("patch 1\nneeds\nadd ^ $ other\n"); e != api.OK {
		t.Errorf("Apply to the other store = %d", e)
	}
	if e := a.Apply(adding(2, 1)); e != api.OK {
		t.Errorf("Apply = %d", e)
	}
	wantUnapply(t, b, 2, api.ErrNone)
	wantUnapply(t, b, 1, api.OK)
	wantLog(t, b)
	wantLog(t, a, 1, 2)
	wantText(t, a, 1, base)
}

func TestNoCallPanics(t *testing.T) {
	texts := []string{"", "\n", "\x00", "patch", "patch 1\nneeds", base[:len(base)-1], base + base, strings.Repeat("patch 1\n", 5000), strings.Repeat("9", 100000)}
	for k := range base {
		texts = append(texts, base[:k], base[k:])
	}
	for _, s := range []*Store{New(), {}, filled(t, base)} {
		before := state(s)
		for _, x := range texts {
			if e := s.Apply(x); e == api.OK {
				s.Unapply(1)
			}
			Load(x)
			s.Record(2, []string{x})
		}
		for _, n := range []int{math.MinInt, -1, 0, 2, 9999, 10000, math.MaxInt} {
			s.Unapply(n)
			s.Text(n)
			s.Past(n)
			s.Record(n, nil)
		}
		s.Pull(New())
		s.Pull(s)
		s.Show()
		s.Clean()
		s.File()
		s.Credit()
		s.Bundle()
		if after := state(s); after != before {
			t.Errorf("behind calls that are refused, undone or only read: %s, was %s", after, before)
		}
	}
}
