package store

import (
	"fmt"
	"slices"
	"strings"
	"testing"

	"patches/api"
)

// wantShown: what Show and Credit answer, and that Clean and File go along with them.
func wantShown(t *testing.T, s *Store, shows []string, credit []int) {
	t.Helper()
	if got := s.Show(); !slices.Equal(got, shows) {
		t.Errorf("Show() = %q, want %q, in %s", got, shows, state(s))
	}
	if got := s.Credit(); !slices.Equal(got, credit) {
		t.Errorf("Credit() = %v, want %v, in %s", got, credit, state(s))
	}
	clean := true
	var file []string
	for _, x := range shows {
		clean = clean && x[0] == ' '
		file = append(file, x[1:])
	}
	if s.Clean() != clean {
		t.Errorf("Clean() = %v, in %s", s.Clean(), state(s))
	}
	got, e := s.File()
	if clean && (e != api.OK || !slices.Equal(got, file)) {
		t.Errorf("File() = %q, %d, want %q, in %s", got, e, file, state(s))
	}
	if !clean && (e != api.ErrConflict || len(got) != 0) {
		t.Errorf("File() = %q, %d, want a conflict, in %s", got, e, state(s))
	}
}

type showCase struct {
	why    string
	texts  []string
	shows  []string
	credit []int
}

func wantCases(t *testing.T, cases []showCase) {
	t.Helper()
	for _, c := range cases {
		t.Run(c.why, func(t *testing.T) { wantShown(t, filled(t, c.texts...), c.shows, c.credit) })
	}
}

func TestShowFiles(t *testing.T) {
	wantCases(t, []showCase{
		{"an empty store", nil, nil, nil},
		{"one line", []string{adding(7, 1)}, []string{" x"}, []int{7}},
		{"lines in order", []string{base}, []string{" a", " b", " c"}, []int{1, 1, 1}},
		{"lines put ahead of each other", []string{"patch 1\nneeds\nadd ^ $ a\nadd ^ 1.0 b\nadd ^ 1.1 c\n"}, []string{" c", " b", " a"}, []int{1, 1, 1}},
		{"a line between lines", []string{base, "patch 2\nneeds 1\nadd 1.1 1.2 x\n"}, []string{" a", " b", " x", " c"}, []int{1, 1, 2, 1}},
		{"a line first and a line last", []string{base, "patch 2\nneeds 1\nadd ^ 1.0 x\nadd 1.2 $ y\n"}, []string{" x", " a", " b", " c", " y"}, []int{2, 1, 1, 1, 2}},
		{"a line in the place of another", []string{base, "patch 2\nneeds 1\ndel 1.1\nadd 1.0 1.2 x\n"}, []string{" a", " x", " c"}, []int{1, 2, 1}},
		{"a dead line still orders", []string{base, "patch 2\nneeds 1\ndel 1.1\n"}, []string{" a", " c"}, []int{1, 1}},
		{"two dead lines side by side still order", []string{base, "patch 2\nneeds 1\nadd 1.1 1.2 d\n", "patch 3\nneeds 1 2\ndel 1.1\ndel 2.0\n"}, []string{" a", " c"}, []int{1, 1}},
		{"told dead twice", []string{base, "patch 2\nneeds 1\ndel 1.1\ndel 1.1\n", "patch 3\nneeds 1\ndel 1.1\n"}, []string{" a", " c"}, []int{1, 1}},
		{"all lines dead", []string{base, "patch 2\nneeds 1\ndel 1.0\ndel 1.1\ndel 1.2\n"}, nil, nil},
		{"one line left", []string{base, "patch 2\nneeds 1\ndel 1.0\ndel 1.2\n"}, []string{" b"}, []int{1}},
		{"empty texts and texts like signs", []string{"patch 1\nneeds\nadd ^ $ \nadd 1.0 $ <\nadd 1.1 $ =\nadd 1.2 $ >\nadd 1.3 $ |\nadd 1.4 $  \nadd 1.5 $ !@\n"}, []string{" ", " <", " =", " >", " |", "  ", " !@"}, []int{1, 1, 1, 1, 1, 1, 1}},
		{"only the adds of a patch count its lines", []string{base, "patch 2\nneeds 1\ndel 1.0\nadd 1.0 1.1 p\ntie 1.1 1.2\nadd 2.0 1.1 q\n"}, []string{" p", " q", " b", " c"}, []int{2, 2, 1, 1}},
		{"a patch without lines of its own", []string{base, "patch 2\nneeds 1\ntie 1.0 1.2\n"}, []string{" a", " b", " c"}, []int{1, 1, 1}},
	})
}

func TestShowBlocks(t *testing.T) {
	p, r := "patch 3\nneeds 1\nadd 1.0 1.1 p\n", "patch 2\nneeds 1\nadd 1.0 1.1 r\n"
	wantCases(t, []showCase{
		{"two lines at one place", []string{base, p, r}, []string{" a", "<", "|r", "=", "|p", ">", " b", " c"}, []int{1, 2, 3, 1, 1}},
		{"two lines and nothing else", []string{adding(1, 2)}, []string{"<", "|x", "=", "|x", ">"}, []int{1, 1}},
		{"a tie settles", []string{base, p, r, "patch 4\nneeds 2 3\ntie 3.0 2.0\n"}, []string{" a", " p", " r", " b", " c"}, []int{1, 3, 2, 1, 1}},
		{"a tie the other way", []string{base, p, r, "patch 4\nneeds 2 3\ntie 2.0 3.0\n"}, []string{" a", " r", " p", " b", " c"}, []int{1, 2, 3, 1, 1}},
		{"a death settles", []string{base, p, r, "patch 4\nneeds 2\ndel 2.0\n"}, []string{" a", " p", " b", " c"}, []int{1, 3, 1, 1}},
		{"a third line ahead of one and behind the other settles", []string{base, p, r, "patch 4\nneeds 2 3\nadd 3.0 2.0 m\n"}, []string{" a", " p", " m", " r", " b", " c"}, []int{1, 3, 4, 2, 1, 1}},
		{"a strand of two lines", []string{base, "patch 3\nneeds 1\nadd 1.0 1.1 p\nadd 3.0 1.1 q\n", r}, []string{" a", "<", "|r", "=", "|p", "|q", ">", " b", " c"}, []int{1, 2, 3, 3, 1, 1}},
		{"three strands", []string{adding(1, 3)}, []string{"<", "|x", "=", "|x", "=", "|x", ">"}, []int{1, 1, 1}},
		{"two blocks with a settled line between", []string{"patch 1\nneeds\nadd ^ $ a\nadd ^ $ b\nadd 1.0 $ m\nadd 1.1 1.2 z\nadd 1.2 $ u\nadd 1.2 $ v\n"},
			[]string{"<", "|a", "=", "|b", "|z", ">", " m", "<", "|u", "=", "|v", ">"}, []int{1, 1, 1, 1, 1, 1}},
		{"two blocks with a settled line whose name is the least", []string{"patch 1\nneeds\nadd ^ $ m\nadd 1.0 $ u\nadd ^ 1.0 a\nadd 1.0 $ v\nadd ^ 1.0 b\n"},
			[]string{"<", "|a", "=", "|b", ">", " m", "<", "|u", "=", "|v", ">"}, []int{1, 1, 1, 1, 1}},
		{"a block between two settled lines and one behind", []string{base, p, r, "patch 5\nneeds 1\nadd 1.1 1.2 y\n", "patch 4\nneeds 1\nadd 1.1 1.2 z\n"},
			[]string{" a", "<", "|r", "=", "|p", ">", " b", "<", "|z", "=", "|y", ">", " c"}, []int{1, 2, 3, 1, 4, 5, 1}},
		{"two lines that are bound by what is settled alone are two strands", []string{base, "patch 2\nneeds 1\nadd 1.0 1.2 x\n"},
			[]string{" a", "<", "|b", "=", "|x", ">", " c"}, []int{1, 1, 2, 1}},
		{"all unsettled, though most are ordered", []string{base, "patch 2\nneeds\nadd ^ $ x\n"}, []string{"<", "|a", "|b", "|c", "=", "|x", ">"}, []int{1, 1, 1, 2}},
	})
}

func TestShowStrands(t *testing.T) {
	wantCases(t, []showCase{
		{"a chain binds lines that do not lead to each other", []string{"patch 1\nneeds\nadd ^ $ a\nadd ^ $ b\nadd 1.0 $ c\ntie 1.1 1.2\nadd ^ $ d\n"},
			[]string{"<", "|a", "|b", "|c", "=", "|d", ">"}, []int{1, 1, 1, 1}},
		{"a chain to and fro", []string{"patch 1\nneeds\nadd ^ $ a\nadd ^ $ z\nadd 1.0 $ b\nadd ^ 1.2 c\nadd 1.3 $ d\nadd ^ 1.4 e\n"},
			[]string{"<", "|a", "|c", "|e", "|b", "|d", "=", "|z", ">"}, []int{1, 1, 1, 1, 1, 1}},
		{"strands stand by their least line, not by their first", []string{"patch 1\nneeds\nadd ^ $ a\nadd ^ $ b\nadd ^ $ c\nadd ^ 1.0 d\n"},
			[]string{"<", "|d", "|a", "=", "|b", "=", "|c", ">"}, []int{1, 1, 1, 1}},
		{"names of patches as numbers", []string{"patch 10\nneeds\nadd ^ $ ten\n", "patch 9\nneeds\nadd ^ $ nine\n", "patch 100\nneeds\nadd ^ $ hundred\n"},
			[]string{"<", "|nine", "=", "|ten", "=", "|hundred", ">"}, []int{9, 10, 100}},
		{"names of lines as numbers", []string{adding(1, 9) + "add ^ $ nine\nadd ^ $ ten\n", "patch 2\nneeds 1\ndel 1.0\ndel 1.1\ndel 1.3\ndel 1.4\ndel 1.5\ndel 1.6\ndel 1.7\ndel 1.8\n"},
			[]string{"<", "|x", "=", "|nine", "=", "|ten", ">"}, []int{1, 1, 1}},
		{"first the patch, then the line", []string{"patch 1\nneeds\nadd ^ $ p\nadd ^ $ q\n", "patch 2\nneeds\nadd ^ $ r\n"},
			[]string{"<", "|p", "=", "|q", "=", "|r", ">"}, []int{1, 1, 2}},
		{"in a strand by how many are ahead", []string{"patch 1\nneeds\nadd ^ $ c\nadd ^ 1.0 b\nadd ^ 1.1 a\nadd ^ $ x\n"},
			[]string{"<", "|a", "|b", "|c", "=", "|x", ">"}, []int{1, 1, 1, 1}},
		{"in a strand with as many ahead by their names", []string{"patch 2\nneeds\nadd ^ $ p\n", "patch 1\nneeds 2\nadd 2.0 $ q\nadd 2.0 $ r\n", "patch 3\nneeds 2\nadd 2.0 $ s\n", "patch 4\nneeds\nadd ^ $ x\n"},
			[]string{"<", "|p", "|q", "|r", "|s", "=", "|x", ">"}, []int{2, 1, 1, 3, 4}},
	})
}

// A dead line ahead of p does not make p stand behind q.
func TestDeadLinesAheadDoNotCount(t *testing.T) {
	text := "patch 1\nneeds\nadd ^ $ gone\nadd 1.0 $ p\nadd ^ $ q\nadd 1.1 $ r\ntie 1.2 1.3\nadd ^ $ x\n"
	s := filled(t, text)
	wantShown(t, s, []string{"<", "|gone", "|q", "|p", "|r", "=", "|x", ">"}, []int{1, 1, 1, 1, 1})
	if e := s.Apply("patch 2\nneeds 1\ndel 1.0\n"); e != api.OK {
		t.Fatal(e)
	}
	wantShown(t, s, []string{"<", "|p", "|q", "|r", "=", "|x", ">"}, []int{1, 1, 1, 1})
}

func TestLeadingThroughDeadLines(t *testing.T) {
	wantCases(t, []showCase{
		{"a strand that only a dead line binds", []string{"patch 1\nneeds\nadd ^ $ p\nadd 1.0 $ gone\nadd 1.1 $ q\nadd ^ $ x\n", "patch 2\nneeds 1\ndel 1.1\n"},
			[]string{"<", "|p", "|q", "=", "|x", ">"}, []int{1, 1, 1}},
		{"a dead line that both lead to binds nothing", []string{"patch 1\nneeds\nadd ^ $ p\nadd ^ $ q\nadd 1.0 $ gone\ntie 1.1 1.2\n", "patch 2\nneeds 1\ndel 1.2\n"},
			[]string{"<", "|p", "=", "|q", ">"}, []int{1, 1}},
		{"a tie to a dead line orders", []string{adding(1, 2), "patch 2\nneeds 1\nadd 1.0 $ gone\n", "patch 3\nneeds 1 2\ndel 2.0\ntie 2.0 1.1\n"},
			[]string{" x", " x"}, []int{1, 1}},
		{"a line put beside a line that is dead already", []string{base, "patch 2\nneeds 1\ndel 1.1\n", "patch 3\nneeds 1 2\nadd 1.0 1.1 x\n", "patch 4\nneeds 1 2\nadd 1.1 1.2 y\n"},
			[]string{" a", " x", " y", " c"}, []int{1, 3, 4, 1}},
	})
}

func TestShowRings(t *testing.T) {
	two := "patch 2\nneeds 1\nadd 1.0 1.1 p\nadd 1.0 1.1 q\n"
	wantCases(t, []showCase{
		{"ties that contradict each other", []string{base, two, "patch 3\nneeds 2\ntie 2.0 2.1\n", "patch 4\nneeds 2\ntie 2.1 2.0\n"},
			[]string{" a", "<", "@p", "@q", ">", " b", " c"}, []int{1, 2, 2, 1, 1}},
		{"a ring of the whole file", []string{base, "patch 2\nneeds 1\ntie 1.2 1.0\n"}, []string{"<", "@a", "@b", "@c", ">"}, []int{1, 1, 1}},
		{"a ring of two behind a settled line", []string{base, "patch 2\nneeds 1\ntie 1.2 1.1\n"}, []string{" a", "<", "@b", "@c", ">"}, []int{1, 1, 1}},
		{"a ring beside a strand", []string{base, two, "patch 3\nneeds 1 2\nadd 1.0 1.1 r\ntie 2.0 2.1\ntie 2.1 2.0\n"},
			[]string{" a", "<", "@p", "@q", "=", "|r", ">", " b", " c"}, []int{1, 2, 2, 3, 1, 1}},
		{"a line that a ring leads to is in none", []string{"patch 1\nneeds\nadd ^ $ p\nadd 1.0 $ q\nadd 1.1 $ r\ntie 1.1 1.0\n"},
			[]string{"<", "@p", "@q", ">", " r"}, []int{1, 1, 1}},
		{"a ring that only a dead line closes", []string{base, "patch 2\nneeds 1\nadd 1.2 1.0 gone\n", "patch 3\nneeds 2\ndel 2.0\n"},
			[]string{"<", "@a", "@b", "@c", ">"}, []int{1, 1, 1}},
		{"a line in a ring with dead lines alone", []string{base, "patch 2\nneeds 1\ntie 1.2 1.0\n", "patch 3\nneeds 1\ndel 1.0\ndel 1.2\n"},
			[]string{" b"}, []int{1}},
	})
	alone := filled(t, "patch 1\nneeds\nadd ^ $ a\n", "patch 2\nneeds 1\nadd 1.0 1.0 b\n", "patch 3\nneeds 1 2\ndel 1.0\n")
	wantShown(t, alone, []string{" b"}, []int{2})
	wantUnapply(t, alone, 3, api.OK)
	wantShown(t, alone, []string{"<", "@a", "@b", ">"}, []int{1, 2})
}

func TestShowOrphans(t *testing.T) {
	gone := "patch 2\nneeds 1\ndel 1.1\n"
	wantCases(t, []showCase{
		{"put ahead of a line that another tells dead", []string{base, gone, "patch 3\nneeds 1\nadd 1.0 1.1 x\n"}, []string{" a", "!x", " c"}, []int{1, 3, 1}},
		{"put behind it", []string{base, gone, "patch 3\nneeds 1\nadd 1.1 1.2 x\n"}, []string{" a", "!x", " c"}, []int{1, 3, 1}},
		{"put behind one and ahead of another that is dead", []string{base, "patch 2\nneeds 1\ndel 1.0\ndel 1.1\n", "patch 3\nneeds 1\nadd 1.0 1.1 x\n"}, []string{"!x", " c"}, []int{3, 1}},
		{"the dying patch knew of the line", []string{base, "patch 3\nneeds 1\nadd 1.0 1.1 x\n", "patch 4\nneeds 1 3\ndel 1.1\n"}, []string{" a", " x", " c"}, []int{1, 3, 1}},
		{"it knew through another", []string{base, "patch 3\nneeds 1\nadd 1.0 1.1 x\n", "patch 5\nneeds 3\nadd 3.0 $ y\n", "patch 4\nneeds 1 5\ndel 1.1\ndel 5.0\n"}, []string{" a", " x", " c"}, []int{1, 3, 1}},
		{"the line's patch knew of the death", []string{base, gone, "patch 3\nneeds 1 2\nadd 1.0 1.1 x\n"}, []string{" a", " x", " c"}, []int{1, 3, 1}},
		{"it knew through another too", []string{base, gone, "patch 5\nneeds 2\nadd ^ $ y\n", "patch 3\nneeds 1 5\nadd 1.0 1.1 x\ndel 5.0\n"}, []string{" a", " x", " c"}, []int{1, 3, 1}},
		{"the line's patch tells it dead itself", []string{base, "patch 3\nneeds 1\nadd 1.0 1.1 x\ndel 1.1\n"}, []string{" a", " x", " c"}, []int{1, 3, 1}},
		{"itself, and another that knew nothing", []string{base, gone, "patch 3\nneeds 1\nadd 1.0 1.1 x\ndel 1.1\n"}, []string{" a", "!x", " c"}, []int{1, 3, 1}},
		{"one that knew, and another that did not", []string{base, gone, "patch 3\nneeds 1\nadd 1.0 1.1 x\n", "patch 4\nneeds 1 3\ndel 1.1\n"}, []string{" a", "!x", " c"}, []int{1, 3, 1}},
		{"a third patch that knows both does not mend it", []string{base, gone, "patch 3\nneeds 1\nadd 1.0 1.1 x\n", "patch 4\nneeds 2 3\nadd 3.0 $ y\n", "patch 5\nneeds 1 4\ntie 4.0 1.2\n"},
			[]string{" a", "!x", " y", " c"}, []int{1, 3, 4, 1}},
		{"a line put beside the orphan is none", []string{base, gone, "patch 3\nneeds 1\nadd 1.0 1.1 x\nadd 1.0 3.0 y\n"}, []string{" a", " y", "!x", " c"}, []int{1, 3, 3, 1}},
		{"a line only tied to the dead one is none", []string{base, gone, "patch 3\nneeds 1\nadd 1.0 1.2 x\ntie 3.0 1.1\n"}, []string{" a", " x", " c"}, []int{1, 3, 1}},
		{"the neighbours put ahead of it, of the dead line's own patch, are none", []string{base, gone}, []string{" a", " c"}, []int{1, 1}},
		{"an orphan that is unsettled", []string{base, gone, "patch 3\nneeds 1\nadd 1.0 1.1 x\n", "patch 4\nneeds 1\nadd 1.0 1.2 y\n"}, []string{" a", "<", "!x", "=", "|y", ">", " c"}, []int{1, 3, 4, 1}},
		{"an orphan in a ring", []string{base, gone, "patch 3\nneeds 1\nadd 1.0 1.1 x\ntie 3.0 1.0\n"}, []string{"<", "@a", "!x", ">", " c"}, []int{1, 3, 1}},
		{"an orphan that is dead too", []string{base, gone, "patch 3\nneeds 1\nadd 1.0 1.1 x\n", "patch 4\nneeds 3\ndel 3.0\n"}, []string{" a", " c"}, []int{1, 1}},
		{"an orphan alone", []string{"patch 1\nneeds\nadd ^ $ a\n", "patch 2\nneeds 1\ndel 1.0\n", "patch 3\nneeds 1\nadd 1.0 $ x\n"}, []string{"!x"}, []int{3}},
	})
}

// What a set means hangs on which patches there are: every order of coming, and patches that went
// again, leave no trace.
func TestShowInEveryOrderOfComing(t *testing.T) {
	texts := []string{"patch 3\nneeds 1\nadd 1.0 1.1 p\nadd 3.0 1.1 q\n", "patch 2\nneeds 1\nadd 1.0 1.1 r\n", "patch 5\nneeds 1\ndel 1.1\n", "patch 4\nneeds 1\nadd 1.1 1.2 s\n"}
	shows := []string{" a", "<", "!r", "=", "!p", "!q", ">", "!s", " c"}
	orders := 0
	for code := 0; code < 256; code++ {
		order := []int{code & 3, code >> 2 & 3, code >> 4 & 3, code >> 6}
		if sorted := slices.Sorted(slices.Values(order)); !slices.Equal(sorted, []int{0, 1, 2, 3}) {
			continue
		}
		orders++
		s := filled(t, base)
		for _, k := range order {
			if e := s.Apply(texts[k]); e != api.OK {
				t.Fatal(e)
			}
		}
		wantShown(t, s, shows, []int{1, 2, 3, 3, 4, 1})
		wantUnapply(t, s, 5, api.OK)
		wantShown(t, s, []string{" a", "<", "|r", "=", "|p", "|q", ">", " b", " s", " c"}, []int{1, 2, 3, 3, 1, 4, 1})
	}
	if orders != 24 {
		t.Errorf("%d orders", orders)
	}
}

func TestShowFullStores(t *testing.T) {
	s := New()
	var shows []string
	var credit []int
	needs, up := "", "^"
	for id := 1; id <= api.MaxPatches; id++ {
		text := fmt.Sprintf("patch %d\nneeds%s\n", id, needs)
		for k := 0; k < 5 && len(shows) < api.MaxLines; k++ {
			text += fmt.Sprintf("add %s $ %d\n", up, len(shows))
			up = fmt.Sprintf("%d.%d", id, k)
			shows = append(shows, fmt.Sprint(" ", len(shows)))
			credit = append(credit, id)
		}
		needs = fmt.Sprint(" ", id)
		if len(shows) == api.MaxLines && strings.Count(text, "\n") == 2 {
			break
		}
		if e := s.Apply(text); e != api.OK {
			t.Fatalf("Apply(%q) = %d", text, e)
		}
	}
	wantShown(t, s, shows, credit)
	loose := filled(t, adding(1, 30), adding(2, 30), adding(3, 30))
	if got := loose.Show(); len(got) != 2*api.MaxLines+1 || got[0] != "<" || got[len(got)-1] != ">" {
		t.Errorf("Show() = %q", got)
	}
}

func soilTexts(list []string) []string {
	all := list[:cap(list)]
	for k := range all {
		all[k] = "mine"
	}
	return all
}

func TestShownListsAreTheCallers(t *testing.T) {
	s := filled(t, base, "patch 2\nneeds 1\nadd 1.1 1.2 x\n", "patch 3\nneeds 1\nadd 1.2 $ y\n")
	shows, credit := []string{" a", " b", " x", " c", " y"}, []int{1, 1, 2, 1, 3}
	before := state(s)
	show := soilTexts(s.Show())
	file, _ := s.File()
	file = soilTexts(file)
	names := soil(s.Credit())
	wantShown(t, s, shows, credit)
	if after := state(s); after != before {
		t.Errorf("behind the caller's writing: %s, was %s", after, before)
	}
	wantUnapply(t, s, 3, api.OK)
	wantShown(t, s, shows[:4], credit[:4])
	for _, x := range append(slices.Clone(show), file...) {
		if x != "mine" {
			t.Errorf("somebody wrote into the caller's lists: %q, %q", show, file)
		}
	}
	for _, n := range names {
		if n != -7 {
			t.Errorf("somebody wrote into the caller's list: %v", names)
		}
	}
}

func TestShowOfStoresApart(t *testing.T) {
	a, b := filled(t, base), filled(t, base)
	for _, x := range []string{"patch 2\nneeds 1\nadd 1.0 1.1 x\n", "patch 3\nneeds 1\nadd 1.0 1.1 y\n"} {
		if e := a.Apply(x); e != api.OK {
			t.Fatal(e)
		}
	}
	wantShown(t, a, []string{" a", "<", "|x", "=", "|y", ">", " b", " c"}, []int{1, 2, 3, 1, 1})
	wantShown(t, b, []string{" a", " b", " c"}, []int{1, 1, 1})
}
