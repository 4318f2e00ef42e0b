package store

import (
	"fmt"
	"math"
	"slices"
	"strings"
	"testing"

	"patches/api"
)

// wantRecord: the answer, that nothing is applied, and that the list which is handed in stays as it
// is, with the room behind its end; for a text, P9 too.
func wantRecord(t *testing.T, s *Store, id int, lines []string, text string, want api.Errno) {
	t.Helper()
	before := state(s)
	whole := append(slices.Clone(lines), "room", "behind", "the end")
	room := slices.Clone(whole)
	got, e := s.Record(id, room[:len(lines)])
	if got != text || e != want {
		t.Errorf("Record(%d, %.200q) = %q, %d, want %q, %d, in %s", id, lines, got, e, text, want, before)
	}
	if !slices.Equal(room, whole) {
		t.Errorf("Record(%d, %.200q) left the list as %.200q", id, lines, room)
	}
	if after := state(s); after != before {
		t.Errorf("behind Record(%d, %.200q): %s, was %s", id, lines, after, before)
	}
	if e == api.OK {
		wantBecome(t, s, got, lines)
	}
}

// wantBecome: a store of the same patches becomes these lines by the text, if there is room (P9).
func wantBecome(t *testing.T, s *Store, text string, lines []string) {
	t.Helper()
	o := New()
	wantPull(t, o, s, api.OK)
	if isFullFor(s, text) {
		wantRefused(t, o, text, api.ErrFull)
		return
	}
	if e := o.Apply(text); e != api.OK {
		t.Errorf("Apply(%q) of a record = %d, in %s", text, e, state(s))
		return
	}
	file, e := o.File()
	if e != api.OK || !o.Clean() || !slices.Equal(file, lines) {
		t.Errorf("behind the record %q: File() = %q, %d, want %q, in %s", text, file, e, lines, state(s))
	}
	for _, id := range []int{1, 9998, 9999} {
		want := api.ErrSame
		if slices.Contains(o.Log(), id) {
			want = api.ErrTwice
		}
		if x, e := o.Record(id, lines); x != "" || e != want {
			t.Errorf("a second Record(%d, %q) = %q, %d, want %d, in %s", id, lines, x, e, want, state(o))
		}
	}
}

// isFullFor: are there MaxPatches patches, or would there be too many lines?
func isFullFor(s *Store, text string) bool {
	lines := linesOf(text)
	for _, id := range s.Log() {
		x, _ := s.Text(id)
		lines += linesOf(x)
	}
	return len(s.Log()) == api.MaxPatches || lines > api.MaxLines
}

// recordCase: the lines are words of one text, and so are the changes of the patch, each behind a /.
type recordCase struct {
	why    string
	texts  []string
	lines  string
	needs  string
	change string
}

// wantRecords: of a patch 7.
func wantRecords(t *testing.T, cases []recordCase) {
	t.Helper()
	for _, c := range cases {
		t.Run(c.why, func(t *testing.T) {
			text := "patch 7\nneeds" + c.needs + strings.ReplaceAll(c.change, "/", "\n") + "\n"
			wantRecord(t, filled(t, c.texts...), 7, strings.Fields(c.lines), text, api.OK)
		})
	}
}

// chain: a patch without needs that adds a line for each of these letters, in their order.
func chain(id int, letters string) string {
	text, up := fmt.Sprintf("patch %d\nneeds\n", id), "^"
	for k, x := range letters {
		text += fmt.Sprintf("add %s $ %c\n", up, x)
		up = fmt.Sprintf("%d.%d", id, k)
	}
	return text
}

func TestRecordFiles(t *testing.T) {
	wantRecords(t, []recordCase{
		{"into an empty store", nil, "a b c", "", "/add ^ $ a/add 7.0 $ b/add 7.1 $ c"},
		{"one line into an empty store", nil, "a", "", "/add ^ $ a"},
		{"where all lines are dead", []string{base, "patch 2\nneeds 1\ndel 1.0\ndel 1.1\ndel 1.2\n"}, "a", "", "/add ^ $ a"},
		{"a line changed", []string{base}, "a x c", " 1", "/del 1.1/add 1.0 1.2 x"},
		{"the first changed", []string{base}, "x b c", " 1", "/del 1.0/add ^ 1.1 x"},
		{"the last changed", []string{base}, "a b x", " 1", "/del 1.2/add 1.1 $ x"},
		{"two changed", []string{base}, "x b y", " 1", "/del 1.0/del 1.2/add ^ 1.1 x/add 1.1 $ y"},
		{"all changed", []string{base}, "x y", " 1", "/del 1.0/del 1.1/del 1.2/add ^ $ x/add 7.0 $ y"},
		{"one more", []string{base}, "a b x c", " 1", "/add 1.1 1.2 x"},
		{"one more at the beginning", []string{base}, "x a b c", " 1", "/add ^ 1.0 x"},
		{"one more at the end", []string{base}, "a b c x", " 1", "/add 1.2 $ x"},
		{"two more at one place", []string{base}, "a x y b c", " 1", "/add 1.0 1.1 x/add 7.0 1.1 y"},
		{"two more at the beginning and two at the end", []string{base}, "x y a b c z u", " 1", "/add ^ 1.0 x/add 7.0 1.0 y/add 1.2 $ z/add 7.2 $ u"},
		{"more at every place", []string{base}, "x a y b z c u", " 1", "/add ^ 1.0 x/add 1.0 1.1 y/add 1.1 1.2 z/add 1.2 $ u"},
		{"one less", []string{base}, "a c", " 1", "/del 1.1"},
		{"the first less", []string{base}, "b c", " 1", "/del 1.0"},
		{"the last less", []string{base}, "a b", " 1", "/del 1.2"},
		{"all gone", []string{base}, "", " 1", "/del 1.0/del 1.1/del 1.2"},
		{"a patch in the middle of the names", []string{chain(9, "ab"), "patch 3\nneeds 9\nadd 9.1 $ c\n"}, "a x c y", " 3 9", "/del 9.1/add 9.0 3.0 x/add 3.0 $ y"},
	})
	s := filled(t, base)
	wantRecord(t, s, 9999, []string{"", "a", "b", "b", "c", "  "}, "patch 9999\nneeds 1\nadd ^ 1.0 \nadd 1.1 1.2 b\nadd 1.2 $   \n", api.OK)
	wantRecord(t, s, 2, nil, "patch 2\nneeds 1\ndel 1.0\ndel 1.1\ndel 1.2\n", api.OK)
	wantRecord(t, s, 2, []string{"<", ">", "^", "$", "del 1.0", "patch 2"}, "patch 2\nneeds 1\ndel 1.0\ndel 1.1\ndel 1.2\nadd ^ $ <\nadd 2.0 $ >\nadd 2.1 $ ^\nadd 2.2 $ $\nadd 2.3 $ del 1.0\nadd 2.4 $ patch 2\n", api.OK)
}

// Of several longest common parts the walk from the left says which one stays.
func TestRecordSaysWhichLinesStay(t *testing.T) {
	wantRecords(t, []recordCase{
		{"two lines change places", []string{chain(1, "ab")}, "b a", " 1", "/del 1.0/add 1.1 $ a"},
		{"three lines turned round", []string{base}, "c b a", " 1", "/del 1.0/del 1.1/add 1.2 $ b/add 7.0 $ a"},
		{"the last becomes the first", []string{base}, "c a b", " 1", "/del 1.2/add ^ 1.0 c"},
		{"the first becomes the last", []string{base}, "b c a", " 1", "/del 1.0/add 1.2 $ a"},
		{"one of two equal lines", []string{chain(1, "xx")}, "x", " 1", "/del 1.1"},
		{"two of three equal lines", []string{chain(1, "xxx")}, "x x", " 1", "/del 1.2"},
		{"one more equal line", []string{chain(1, "x")}, "x x", " 1", "/add 1.0 $ x"},
		{"equal lines around another, which goes", []string{chain(1, "xax")}, "x x", " 1", "/del 1.1"},
		{"the later of two equal lines, by what stands between", []string{chain(1, "xax")}, "a x", " 1", "/del 1.0"},
		{"the earlier one", []string{chain(1, "xax")}, "x a", " 1", "/del 1.2"},
		{"a line goes at the left, one comes in the middle", []string{chain(1, "axbx")}, "x b a x", " 1", "/del 1.0/add 1.2 1.3 a"},
		{"common parts of two lines at the left and at the right", []string{base}, "b c a b", " 1", "/del 1.0/add 1.2 $ a/add 7.0 $ b"},
		{"a line that fits at once stays, though a longer way begins with the next", []string{chain(1, "abcd")}, "a c d b", " 1", "/del 1.1/add 1.3 $ b"},
		{"two pairs change places", []string{chain(1, "abcd")}, "c d a b", " 1", "/del 1.0/del 1.1/add 1.3 $ a/add 7.0 $ b"},
		{"the longer part stays, though it is later in lines", []string{chain(1, "abcd")}, "d a b c", " 1", "/del 1.3/add ^ 1.0 d"},
		{"the longer part stays, though it is later in the file", []string{chain(1, "abcd")}, "b c d a", " 1", "/del 1.0/add 1.3 $ a"},
		{"the letters of two words", []string{chain(1, "abcbdab")}, "b d c a b a", " 1", "/del 1.0/del 1.2/del 1.3/add 1.4 1.5 c/add 1.6 $ a"},
	})
}

func TestRecordSettlesBlocks(t *testing.T) {
	r, p := "patch 2\nneeds 1\nadd 1.0 1.1 r\n", "patch 3\nneeds 1\nadd 1.0 1.1 p\nadd 3.0 1.1 q\n"
	block := []string{base, p, r}
	wantRecords(t, []recordCase{
		{"as it is shown", block, "a r p q b c", " 2 3", "/tie 2.0 3.0"},
		{"the strands the other way", block, "a p q r b c", " 1 2 3", "/del 2.0/add 3.1 1.1 r"},
		{"a line of the one strand in the other", block, "a p r q b c", " 2 3", "/del 2.0/add 3.0 3.1 r"},
		{"with a line between the strands", block, "a r x p q b c", " 2 3", "/add 2.0 3.0 x"},
		{"without a strand", block, "a p q b c", " 2", "/del 2.0"},
		{"without the other", block, "a r b c", " 3", "/del 3.0/del 3.1"},
		{"without the second strand's first line", block, "a r q b c", " 2 3", "/del 3.0/tie 2.0 3.1"},
		{"without the second strand's last line", block, "a r p b c", " 2 3", "/del 3.1/tie 2.0 3.0"},
		{"lines of both strands, turned round", block, "a q r b c", " 1 2 3", "/del 2.0/del 3.0/add 3.1 1.1 r"},
		{"and a line elsewhere", block, "a r p q b x c", " 1 2 3", "/tie 2.0 3.0/add 1.1 1.2 x"},
		{"and a line ahead", block, "x a r p q b c", " 1 2 3", "/add ^ 1.0 x/tie 2.0 3.0"},
		{"three strands", []string{adding(1, 3)}, "x x x", " 1", "/tie 1.0 1.1/tie 1.1 1.2"},
		{"two of three strands", []string{adding(1, 3)}, "x x", " 1", "/del 1.2/tie 1.0 1.1"},
		{"a strand of a chain", []string{"patch 1\nneeds\nadd ^ $ a\nadd ^ $ b\nadd 1.0 $ c\ntie 1.1 1.2\n"}, "a b c", " 1", "/tie 1.0 1.1"},
		{"two blocks", []string{"patch 1\nneeds\nadd ^ $ a\nadd ^ $ b\nadd 1.0 $ m\nadd 1.1 1.2 z\nadd 1.2 $ u\nadd 1.2 $ v\n"}, "a b z m u v", " 1", "/tie 1.0 1.1/tie 1.4 1.5"},
	})
}

// A tie stands just where two lines that stay side by side do not lead one to the other.
func TestRecordTies(t *testing.T) {
	wantRecords(t, []recordCase{
		{"none where a dying line between leads on", []string{base}, "a c", " 1", "/del 1.1"},
		{"none where a dead line leads on", []string{base, "patch 2\nneeds 1\ndel 1.1\n"}, "a c x", " 1", "/add 1.2 $ x"},
		{"none where two dead lines lead on", []string{chain(1, "abcd"), "patch 2\nneeds 1\ndel 1.1\n"}, "a d", " 1", "/del 1.2"},
		{"one where both lead to a dying line", []string{"patch 1\nneeds\nadd ^ $ p\nadd ^ $ q\nadd 1.0 $ gone\ntie 1.1 1.2\n"}, "p q", " 1", "/del 1.2/tie 1.0 1.1"},
		{"one where both lead to a dead line", []string{"patch 1\nneeds\nadd ^ $ p\nadd ^ $ q\nadd 1.0 $ gone\ntie 1.1 1.2\n", "patch 2\nneeds 1\ndel 1.2\n"}, "p q", " 1", "/tie 1.0 1.1"},
		{"one where a dying line leads to both", []string{"patch 1\nneeds\nadd ^ $ gone\nadd 1.0 $ p\nadd 1.0 $ q\n"}, "p q", " 1", "/del 1.0/tie 1.1 1.2"},
		{"none beside a line that comes", []string{adding(1, 2)}, "x y x", " 1", "/add 1.0 1.1 y"},
		{"one behind a line that comes between others", []string{adding(1, 3)}, "x y x x", " 1", "/add 1.0 1.1 y/tie 1.1 1.2"},
		{"one ahead of a line that comes between others", []string{adding(1, 3)}, "x x y x", " 1", "/tie 1.0 1.1/add 1.1 1.2 y"},
		{"none where a tie was", []string{adding(1, 3), "patch 2\nneeds 1\ntie 1.0 1.1\n"}, "x x x", " 1", "/tie 1.1 1.2"},
		{"one over a strand that dies", []string{"patch 1\nneeds\nadd ^ $ a\nadd ^ $ b\nadd ^ $ c\n"}, "a c", " 1", "/del 1.1/tie 1.0 1.2"},
		{"one over a line that may not stay", []string{base, "patch 2\nneeds 1\ndel 1.1\n", "patch 3\nneeds\nadd ^ $ p\n", "patch 4\nneeds 1\nadd 1.0 1.1 o\n"}, "a c p", " 1 3 4", "/del 4.0/tie 1.2 3.0"},
	})
}

// Lines in a ring, and orphans, may not stay: they die, and come again if they are wanted.
func TestRecordOfLinesThatMayNotStay(t *testing.T) {
	ring := []string{base, "patch 2\nneeds 1\nadd 1.0 1.1 p\nadd 1.0 1.1 q\n", "patch 3\nneeds 2\ntie 2.0 2.1\n", "patch 4\nneeds 2\ntie 2.1 2.0\n"}
	orphan := []string{base, "patch 2\nneeds 1\ndel 1.1\n", "patch 3\nneeds 1\nadd 1.0 1.1 x\n"}
	wantRecords(t, []recordCase{
		{"a ring as it is shown", ring, "a p q b c", " 1 2", "/del 2.0/del 2.1/add 1.0 1.1 p/add 7.0 1.1 q"},
		{"a ring the other way", ring, "a q p b c", " 1 2", "/del 2.0/del 2.1/add 1.0 1.1 q/add 7.0 1.1 p"},
		{"one line of a ring", ring, "a q b c", " 1 2", "/del 2.0/del 2.1/add 1.0 1.1 q"},
		{"without the ring", ring, "a b c", " 2", "/del 2.0/del 2.1"},
		{"a ring of the whole file", []string{base, "patch 2\nneeds 1\ntie 1.2 1.0\n"}, "a b c", " 1", "/del 1.0/del 1.1/del 1.2/add ^ $ a/add 7.0 $ b/add 7.1 $ c"},
		{"a ring that only a dead line closes", []string{base, "patch 2\nneeds 1\nadd 1.2 1.0 gone\n", "patch 3\nneeds 2\ndel 2.0\n"}, "a", " 1 2", "/del 1.0/del 1.1/del 1.2/add ^ $ a"},
		{"a line in a ring with dead lines alone", []string{base, "patch 2\nneeds 1\ntie 1.2 1.0\n", "patch 3\nneeds 1\ndel 1.0\ndel 1.2\n"}, "b x", " 1", "/add 1.1 $ x"},
		{"an orphan as it is shown", orphan, "a x c", " 1 3", "/del 3.0/add 1.0 1.2 x"},
		{"without the orphan", orphan, "a c", " 3", "/del 3.0"},
		{"an orphan and a like line behind it", []string{chain(1, "da"), "patch 2\nneeds 1\ndel 1.0\n", "patch 3\nneeds 1\nadd ^ 1.0 a\n"}, "a", " 3", "/del 3.0"},
		{"an orphan and a like line behind it, both wanted", []string{chain(1, "da"), "patch 2\nneeds 1\ndel 1.0\n", "patch 3\nneeds 1\nadd ^ 1.0 a\n"}, "a a", " 1 3", "/del 3.0/add 1.1 $ a"},
		{"an orphan counts in no common part", []string{chain(1, "dab"), "patch 2\nneeds 1\ndel 1.0\n", "patch 3\nneeds 1\nadd ^ 1.0 x\nadd 3.0 1.0 y\n"}, "b x y a", " 1 3", "/del 3.0/del 3.1/del 1.1/add 1.2 $ x/add 7.0 $ y/add 7.1 $ a"},
		{"an unsettled orphan beside a line that stays", []string{base, "patch 2\nneeds 1\ndel 1.1\n", "patch 3\nneeds 1\nadd 1.0 1.1 x\n", "patch 4\nneeds 1\nadd 1.0 1.2 y\n"}, "a x y c", " 1 3 4", "/del 3.0/add 1.0 4.0 x"},
	})
}

func TestRecordNeeds(t *testing.T) {
	ahead, behind := "patch 2\nneeds 1\nadd 1.0 1.1 x\n", "patch 2\nneeds 1\nadd 1.1 1.2 x\n"
	wantRecords(t, []recordCase{
		{"who put a line ahead of the dying one", []string{base, ahead}, "a x c", " 1 2", "/del 1.1"},
		{"who put a line behind it", []string{base, behind}, "a x c", " 1 2", "/del 1.1"},
		{"who put a line ahead of it that is dead", []string{base, ahead, "patch 3\nneeds 2\ndel 2.0\n"}, "a c", " 1 2", "/del 1.1"},
		{"who put a line behind it that is dead", []string{base, behind, "patch 3\nneeds 2\ndel 2.0\n"}, "a c", " 1 2", "/del 1.1"},
		{"who put a line beside it that dies too", []string{base, ahead}, "a c", " 1 2", "/del 2.0/del 1.1"},
		{"who put a line beside it with a second change", []string{base, "patch 2\nneeds 1\nadd ^ 1.0 y\nadd 1.1 1.2 x\n"}, "y a x c", " 1 2", "/del 1.1"},
		{"not who only tied it", []string{base, "patch 2\nneeds 1\ntie 1.0 1.2\n"}, "a b", " 1", "/del 1.2"},
		{"not who told another dead", []string{base, "patch 2\nneeds 1\ndel 1.1\n"}, "a", " 1", "/del 1.2"},
		{"not who put a line beside one that is dead already", []string{base, ahead, "patch 3\nneeds 1 2\ndel 1.1\n"}, "a x", " 1", "/del 1.2"},
		{"not who put a line beside one that stays", []string{base, ahead}, "a x b", " 1", "/del 1.2"},
		{"not who put a line beside a line that is put beside it", []string{base, ahead, "patch 3\nneeds 2\nadd ^ 2.0 y\n", "patch 4\nneeds 1 3\ntie 1.0 3.0\n"}, "a y x c", " 1 2", "/del 1.1"},
		{"not what these need", []string{base, "patch 2\nneeds 1\nadd 1.2 $ d\n", "patch 3\nneeds 2\nadd 2.0 $ e\n"}, "a b c d e f", " 3", "/add 3.0 $ f"},
		{"the line ahead and the line behind of one that comes", []string{base, "patch 2\nneeds 1\nadd 1.2 $ d\n", "patch 3\nneeds 2\nadd 2.0 $ e\n"}, "a b c d x e", " 2 3", "/add 2.0 3.0 x"},
		{"rising, however the patches need each other", []string{chain(9, "ab"), "patch 5\nneeds 9\nadd 9.0 9.1 p\n", "patch 2\nneeds 9\nadd 9.0 9.1 r\n"}, "a r p x", " 2 5 9", "/del 9.1/tie 2.0 5.0/add 5.0 $ x"},
	})
}

func TestRecordWrongNames(t *testing.T) {
	for _, s := range []*Store{New(), filled(t, base)} {
		for _, id := range []int{0, -1, 10000, 10001, math.MinInt, math.MaxInt} {
			wantRecord(t, s, id, []string{"a"}, "", api.ErrArg)
			wantRecord(t, s, id, nil, "", api.ErrArg)
			wantRecord(t, s, id, []string{"a", "b", "c"}, "", api.ErrArg)
		}
		wantRecord(t, s, 1<<32+2, []string{"a"}, "", api.ErrArg)
	}
	wantRecord(t, New(), 1, []string{"a"}, "patch 1\nneeds\nadd ^ $ a\n", api.OK)
	wantRecord(t, New(), 9999, []string{"a"}, "patch 9999\nneeds\nadd ^ $ a\n", api.OK)
}

func TestRecordTooManyLines(t *testing.T) {
	lines := slices.Repeat([]string{""}, api.MaxWant+1)
	text, up := "patch 2\nneeds\n", "^"
	for k := range api.MaxWant {
		text += fmt.Sprintf("add %s $ \n", up)
		up = fmt.Sprint("2.", k)
	}
	wantRecord(t, New(), 2, lines[:api.MaxWant], text, api.OK)
	wantRecord(t, New(), 2, lines, "", api.ErrArg)
	wantRecord(t, New(), 2, slices.Repeat([]string{"a"}, 5000), "", api.ErrArg)
	long := filled(t, chain(1, strings.Repeat("x", api.MaxWant+1)))
	wantRecord(t, long, 2, slices.Repeat([]string{"x"}, api.MaxWant+1), "", api.ErrArg)
	wantRecord(t, long, 2, slices.Repeat([]string{"x"}, api.MaxWant), "patch 2\nneeds 1\ndel 1.24\n", api.OK)
}

func TestRecordWrongLines(t *testing.T) {
	wrong := []string{"thirteen byte", strings.Repeat("x", 100000), "a\n", "\n", "\r", "\t", "\x00", "x\x1f", "\x7f", "\x80", "\xff", "ä", "twelve byte\n", "€€€€€"}
	for _, x := range wrong {
		wantRecord(t, New(), 2, []string{x}, "", api.ErrArg)
		wantRecord(t, filled(t, base), 2, []string{x, "b", "c"}, "", api.ErrArg)
		wantRecord(t, filled(t, base), 2, []string{"a", "b", x}, "", api.ErrArg)
		wantRecord(t, New(), 2, append(slices.Repeat([]string{"x"}, api.MaxWant-1), x), "", api.ErrArg)
	}
	for b := 0; b < 256; b++ {
		line := "x" + string([]byte{byte(b)})
		if b < 32 || b > 126 {
			wantRecord(t, New(), 2, []string{line}, "", api.ErrArg)
		} else {
			wantRecord(t, New(), 2, []string{line}, "patch 2\nneeds\nadd ^ $ "+line+"\n", api.OK)
		}
	}
	wantRecord(t, New(), 2, []string{"twelve bytes", "            "}, "patch 2\nneeds\nadd ^ $ twelve bytes\nadd 2.0 $             \n", api.OK)
}

func TestRecordTwice(t *testing.T) {
	s := filled(t, chain(1, strings.Repeat("x", 16)), chain(5, strings.Repeat("y", 15)))
	for _, id := range []int{1, 5} {
		wantRecord(t, s, id, []string{"a"}, "", api.ErrTwice)
		wantRecord(t, s, id, nil, "", api.ErrTwice)
		wantRecord(t, s, id, []string{"thirteen byte"}, "", api.ErrArg)
		wantRecord(t, s, id, slices.Repeat([]string{"x"}, api.MaxWant+1), "", api.ErrArg)
		wantRecord(t, filled(t, chain(id, "ab")), id, []string{"a", "b"}, "", api.ErrTwice)
	}
	wantRecord(t, s, 2, nil, "", api.ErrFull)
	wantUnapply(t, s, 5, api.OK)
	if x, e := s.Record(5, nil); x == "" || e != api.OK {
		t.Errorf("Record by the name of a patch that has gone = %q, %d", x, e)
	}
}

func TestRecordSame(t *testing.T) {
	wantRecord(t, New(), 1, nil, "", api.ErrSame)
	wantRecord(t, New(), 1, []string{}, "", api.ErrSame)
	wantRecord(t, filled(t, base), 2, []string{"a", "b", "c"}, "", api.ErrSame)
	wantRecord(t, filled(t, base, "patch 2\nneeds 1\ndel 1.1\n"), 3, []string{"a", "c"}, "", api.ErrSame)
	wantRecord(t, filled(t, base, "patch 2\nneeds 1\ndel 1.0\ndel 1.1\ndel 1.2\n"), 3, nil, "", api.ErrSame)
	whole := strings.Repeat("x", api.MaxWant)
	wantRecord(t, filled(t, chain(1, whole)), 2, strings.Split(whole, ""), "", api.ErrSame)
}

// wantChanges: that many changes are recorded, or one too many refused.
func wantChanges(t *testing.T, s *Store, lines []string, n int) {
	t.Helper()
	x, e := s.Record(9999, lines)
	if n > api.MaxChanges {
		wantRecord(t, s, 9999, lines, "", api.ErrFull)
	} else if e != api.OK || strings.Count(x, "\n") != 2+n {
		t.Errorf("Record(9999, %q) = %q, %d, want %d changes", lines, x, e, n)
	} else {
		wantRecord(t, s, 9999, lines, x, api.OK)
	}
}

func TestRecordFull(t *testing.T) {
	fill := slices.Repeat([]string{"y"}, api.MaxWant)
	thirty := chain(1, strings.Repeat("x", 30))
	wantChanges(t, filled(t, thirty), nil, 30)
	wantChanges(t, filled(t, thirty, "patch 2\nneeds 1\nadd 1.29 $ z\n"), nil, 31)
	wantChanges(t, filled(t, thirty, "patch 2\nneeds 1\nadd 1.29 $ z\n"), []string{"z"}, 30)
	wantChanges(t, filled(t, thirty), []string{"y"}, 31)
	sixteen := filled(t, chain(1, strings.Repeat("x", 16)))
	wantChanges(t, sixteen, fill[:13], 29)
	wantChanges(t, sixteen, fill[:14], 30)
	wantChanges(t, sixteen, fill[:15], 31)
	wantChanges(t, sixteen, fill, 40)
	same := slices.Repeat([]string{"x"}, api.MaxWant)
	wantChanges(t, filled(t, adding(1, 24), adding(2, 7)), same, 7+23)
	wantChanges(t, filled(t, adding(1, 24), adding(2, 8)), same, 8+23)
	mixed := filled(t, adding(1, 10), chain(3, "abcdefghij"))
	wantChanges(t, mixed, append(same[:10:10], fill[:11]...), 10+9+11)
	wantChanges(t, mixed, append(same[:10:10], fill[:12]...), 10+9+12)
	wantChanges(t, filled(t, adding(1, 30), adding(2, 30), adding(3, 30)), same, 66+23)
}

// A record hangs on the file alone: whether there is room for it in the store Apply says.
func TestRecordWhereThereIsNoRoom(t *testing.T) {
	full := several(t, 1, api.MaxPatches)
	text := "patch 21\nneeds 1 2 3 4 5 6 7 8 9 10 11 12 13 14 15 16 17 18 19 20\n"
	for id := 1; id < api.MaxPatches; id++ {
		text += fmt.Sprintf("tie %d.0 %d.0\n", id, id+1)
	}
	wantRecord(t, full, 20, nil, "", api.ErrTwice)
	wantRecord(t, full, 21, slices.Repeat([]string{"x"}, 20), text, api.OK)
	dead := filled(t, adding(1, 30), adding(2, 30), adding(3, 30))
	for id := 1; id <= 3; id++ {
		x := fmt.Sprintf("patch %d\nneeds %d\n", id+3, id)
		for k := range 30 {
			x += fmt.Sprintf("del %d.%d\n", id, k)
		}
		if e := dead.Apply(x); e != api.OK {
			t.Fatal(e)
		}
	}
	wantRecord(t, dead, 7, nil, "", api.ErrSame)
	wantRecord(t, dead, 7, []string{"a"}, "patch 7\nneeds\nadd ^ $ a\n", api.OK)
}

// A record is no more than a text: what comes behind it does not change it, nor it what comes.
func TestRecordsOfStoresApart(t *testing.T) {
	a, b := filled(t, base), New()
	wantPull(t, b, a, api.OK)
	lines := []string{"a", "x", "b", "c"}
	x, _ := a.Record(2, lines)
	lines[1] = "y"
	y, _ := b.Record(3, lines)
	lines[1], lines[0] = "z", "z"
	for _, c := range []struct {
		s    *Store
		text string
	}{{a, x}, {b, y}} {
		if e := c.s.Apply(c.text); e != api.OK {
			t.Errorf("Apply(%q) = %d", c.text, e)
		}
	}
	wantPull(t, a, b, api.OK)
	wantShown(t, a, []string{" a", "<", "|x", "=", "|y", ">", " b", " c"}, []int{1, 2, 3, 1, 1})
	wantRecord(t, a, 4, []string{"a", "x", "y", "b", "c"}, "patch 4\nneeds 2 3\ntie 2.0 3.0\n", api.OK)
	wantRecord(t, a, 4, []string{"a", "y", "b", "c"}, "patch 4\nneeds 2\ndel 2.0\n", api.OK)
}
