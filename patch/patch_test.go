package patch

import (
	"reflect"
	"regexp"
	"strconv"
	"strings"
	"testing"

	"patches/api"
)

func TestReadGivesThePatch(t *testing.T) {
	p, ok := Read("patch 9999\nneeds 1 20 300\nadd ^ $ a\nadd 1.0 9999.0  two  blanks\nadd 300.9999 $ \ndel 20.3\ntie 1.0 300.12\n")
	want := api.Patch{
		ID:    9999,
		Needs: []int{1, 20, 300},
		Changes: []api.Change{
			{Kind: api.Add, Up: api.Ref{I: api.StartI}, Down: api.Ref{I: api.EndI}, Text: "a"},
			{Kind: api.Add, Up: api.Ref{P: 1}, Down: api.Ref{P: 9999}, Text: " two  blanks"},
			{Kind: api.Add, Up: api.Ref{P: 300, I: 9999}, Down: api.Ref{I: api.EndI}},
			{Kind: api.Del, Up: api.Ref{P: 20, I: 3}},
			{Kind: api.Tie, Up: api.Ref{P: 1}, Down: api.Ref{P: 300, I: 12}},
		},
	}
	if !ok || !reflect.DeepEqual(p, want) {
		t.Errorf("Read = %v, %v, want %v", p, ok, want)
	}
}

func TestReadRefusesWithTheZeroPatch(t *testing.T) {
	p, ok := Read("patch 1\nneeds 2\nadd ^ $ a\nadd ^ $\n")
	if ok || !reflect.DeepEqual(p, api.Patch{}) {
		t.Errorf("Read = %v, %v", p, ok)
	}
}

// needing: a text with n needs and the given changes.
func needing(n int, changes string) string {
	t := "patch 9999\nneeds"
	for k := 1; k <= n; k++ {
		t += " " + strconv.Itoa(k)
	}
	return t + "\n" + changes
}

// body: a text of patch 1 without needs.
func body(changes string) string { return "patch 1\nneeds\n" + changes }

var good = []string{
	body("add ^ $ a\n"), body("add ^ $ \n"), body("add ^ $  \n"), body("add ^ $ 123456789012\n"), body("add ^ $             \n"),
	body("add ^ $  ~\n"), body("add 1.0 2.0 a\n"), body("add ^ 9999.9999 a\n"), body("add 1.10 $ a\n"),
	body("add ^ $ add ^ $ x\n"), body("add ^ $ patch 2\n"), body("add ^ $ ^\n"), body("add ^ $ $\n"),
	body("del 1.0\n"), body("del 9999.9999\n"), body("del 10.100\n"), body("tie 1.0 1.0\n"), body("tie 2.1 1.2\n"),
	body(strings.Repeat("add ^ $ x\n", api.MaxChanges)), body(strings.Repeat("tie 1.0 1.1\n", api.MaxChanges)),
	body("tie 1.0 2.0\ndel 1.0\nadd ^ $ x\ndel 1.0\n"),
	needing(api.MaxNeeds, "add ^ $ x\n"), "patch 9999\nneeds 9999\nadd ^ $ x\n", "patch 1\nneeds 3 2 2 1\nadd ^ $ x\n",
}

var bad = []string{
	"", "\n", "patch", "patch ", "patch 1", "patch 1\n", "patch 1\nneeds", "patch 1\nneeds\n", "patch 1\nadd ^ $ x\n", "needs\nadd ^ $ x\n",
	"Patch 1\nneeds\nadd ^ $ x\n", " patch 1\nneeds\nadd ^ $ x\n", "\npatch 1\nneeds\nadd ^ $ x\n", "patch  1\nneeds\nadd ^ $ x\n",
	"patch 1 \nneeds\nadd ^ $ x\n", "patch 1 2\nneeds\nadd ^ $ x\n", "patch 0\nneeds\nadd ^ $ x\n", "patch 01\nneeds\nadd ^ $ x\n",
	"patch 00\nneeds\nadd ^ $ x\n", "patch 10000\nneeds\nadd ^ $ x\n", "patch 18446744073709551617\nneeds\nadd ^ $ x\n", "patch -1\nneeds\nadd ^ $ x\n",
	"patch +1\nneeds\nadd ^ $ x\n", "patch x\nneeds\nadd ^ $ x\n", "patch 1.0\nneeds\nadd ^ $ x\n", "patch 1\r\nneeds\r\nadd ^ $ x\r\n",
	"patch 2\nneed\nadd ^ $ x\n", "patch 2\nneeds \nadd ^ $ x\n", "patch 2\nneeds  1\nadd ^ $ x\n", "patch 2\nneeds 1 \nadd ^ $ x\n",
	"patch 2\nneeds 0\nadd ^ $ x\n", "patch 2\nneeds 01\nadd ^ $ x\n", "patch 2\nneeds 10000\nadd ^ $ x\n", "patch 2\nneeds 1,3\nadd ^ $ x\n",
	"patch 2\nneeds1\nadd ^ $ x\n", "patch 2\nneeds\t1\nadd ^ $ x\n", "patch 2\nneeds 1\n\nadd ^ $ x\n", "patch 2\nneeds\nneeds\nadd ^ $ x\n",
	needing(api.MaxNeeds+1, "add ^ $ x\n"),
	body("add ^ $ x"), body("add ^ $ x\n\n"), body("add ^ $ x\n "), body("add ^ $\n"), body("add ^ $"), body("add ^ \n"), body("add ^\n"), body("add\n"), body("add \n"),
	body("add  ^ $ x\n"), body("add ^  $ x\n"), body("add $ ^ x\n"), body("add $ $ x\n"), body("add ^ ^ x\n"), body("add ^$ x\n"), body("add ^ $x\n"),
	body("add 0.1 $ x\n"), body("add ^ 0.1 x\n"), body("add 1 $ x\n"), body("add 1. $ x\n"), body("add .1 $ x\n"), body("add 1.00 $ x\n"), body("add 01.0 $ x\n"),
	body("add 1.10000 $ x\n"), body("add 10000.1 $ x\n"), body("add 1.0.0 $ x\n"), body("add ^ $ 1234567890123\n"), body("add ^ $              \n"),
	body("add ^ $ \x1f\n"), body("add ^ $ \x7f\n"), body("add ^ $ \t\n"), body("add ^ $ \x00\n"), body("add ^ $ \xff\n"), body("add ^ $ é\n"), body("add ^ $ x\r\n"),
	body("del\n"), body("del \n"), body("del ^\n"), body("del $\n"), body("del 1\n"), body("del 1.\n"), body("del 0.0\n"), body("del 1.0"), body("del 1.0 \n"), body("del  1.0\n"),
	body("del 1.0 1.1\n"), body("del 1.-1\n"), body("del 1.01\n"), body("Del 1.0\n"),
	body("tie\n"), body("tie 1.0\n"), body("tie 1.0 \n"), body("tie 1.0 $\n"), body("tie ^ 1.0\n"), body("tie 1.0  1.1\n"), body("tie 1.0 1.1 \n"), body("tie 1.0 1.1 x\n"), body("tie 1.0 1.1"),
	body("tie 1.0 0.1\n"), body("put ^ $ x\n"), body("x\n"), body(" add ^ $ x\n"), body("add ^ $ x\npatch 2\nneeds\nadd ^ $ x\n"),
	body(strings.Repeat("add ^ $ x\n", api.MaxChanges+1)), body(strings.Repeat("del 1.0\n", api.MaxChanges+1)),
	strings.Repeat("x", api.MaxText), strings.Repeat("x", 1000000), strings.Repeat("\n", 3000), body(strings.Repeat("add ^ $ x\n", 100000)),
}

func TestReadTakesTexts(t *testing.T) {
	for _, x := range good {
		p, ok := Read(x)
		if !ok {
			t.Errorf("Read(%q) refused", x)
			continue
		}
		if w := Write(p); w != x {
			t.Errorf("Write of Read(%q) = %q", x, w)
		}
	}
}

func TestReadRefusesOtherTexts(t *testing.T) {
	for _, x := range bad {
		if _, ok := Read(x); ok {
			t.Errorf("Read(%.80q) taken", x)
		}
	}
}

const (
	numberForm = `(0|[1-9][0-9]{0,3})`
	nameForm   = `[1-9][0-9]{0,3}`
	lineForm   = nameForm + `\.` + numberForm
	upForm     = `(\^|` + lineForm + `)`
	downForm   = `(\$|` + lineForm + `)`
	changeForm = `(add ` + upForm + ` ` + downForm + ` [ -~]{0,12}|del ` + lineForm + `|tie ` + lineForm + ` ` + lineForm + `)\n`
)

var textForm = regexp.MustCompile(`^patch ` + nameForm + `\nneeds( ` + nameForm + `){0,20}\n(` + changeForm + `){1,30}$`)

// dice: the same rolls in each run.
type dice struct{ state uint64 }

func (d *dice) roll(n int) int {
	d.state = d.state*6364136223846793005 + 1442695040888963407
	return int(d.state>>33) % n
}

func (d *dice) spoil(x string) string {
	const letters = "0019.^$ \n\nadeilnpst\x00\x1f~\x7f\xff"
	at := d.roll(len(x) + 1)
	switch d.roll(4) {
	case 0:
		return x[:at]
	case 1:
		return x[:at] + letters[d.roll(len(letters)):][:1] + x[at:]
	case 2:
		end := min(len(x), at+1+d.roll(3))
		return x[:at] + x[end:]
	default:
		end := min(len(x), at+1)
		return x[:at] + letters[d.roll(len(letters)):][:1] + x[end:]
	}
}

// Texts that are spoiled a little are taken just if they have the form that the document gives,
// here told by another means.
func TestReadAgainstTheForm(t *testing.T) {
	d := &dice{state: 1}
	taken := 0
	for k := 0; k < 60000; k++ {
		x := good[d.roll(len(good))]
		for n := 1 + d.roll(3); n > 0; n-- {
			x = d.spoil(x)
		}
		want := len(x) <= api.MaxText && textForm.MatchString(x)
		p, ok := Read(x)
		if ok != want {
			t.Fatalf("Read(%q) = %v, want %v", x, ok, want)
		}
		if !ok {
			continue
		}
		taken++
		if w := Write(p); w != x {
			t.Fatalf("Write of Read(%q) = %q", x, w)
		}
	}
	if taken < 1000 {
		t.Errorf("only %d spoiled texts were taken: the test shows too little", taken)
	}
}

func TestWellFormed(t *testing.T) {
	for _, c := range []struct {
		text string
		want bool
	}{
		{body("add ^ $ a\n"), true},
		{needing(api.MaxNeeds, "add 1.0 20.3 x\n"), true},
		{"patch 5\nneeds 1 3 9\nadd 1.0 9.9999 x\nadd 5.0 3.0 y\ntie 5.0 5.1\ntie 1.0 5.0\ntie 5.1 1.0\ndel 9.0\ndel 9.0\n", true},
		{"patch 5\nneeds 1\nadd 1.0 1.0 x\n", true},
		{"patch 5\nneeds 1\ndel 1.0\nadd 1.0 $ x\n", true},
		{"patch 5\nneeds 2 1\nadd ^ $ x\n", false},
		{"patch 5\nneeds 1 1\nadd ^ $ x\n", false},
		{"patch 5\nneeds 1 3 2\nadd ^ $ x\n", false},
		{"patch 5\nneeds 5\nadd ^ $ x\n", false},
		{"patch 5\nneeds 1 5 9\nadd ^ $ x\n", false},
		{body("del 2.0\n"), false},
		{"patch 5\nneeds 1\ndel 2.0\n", false},
		{"patch 5\nneeds 1\nadd 2.0 $ x\n", false},
		{"patch 5\nneeds 1\nadd ^ 2.0 x\n", false},
		{"patch 5\nneeds 1\ntie 1.0 2.0\n", false},
		{"patch 5\nneeds 1\ntie 2.0 1.0\n", false},
		{"patch 5\nneeds 1\nadd 5.0 $ x\n", false},
		{"patch 5\nneeds 1\nadd ^ 5.0 x\n", false},
		{"patch 5\nneeds 1\nadd ^ $ x\nadd 5.1 $ y\n", false},
		{"patch 5\nneeds 1\nadd ^ $ x\ndel 1.0\nadd 5.1 $ y\n", false},
		{"patch 5\nneeds 1\ntie 5.0 1.0\nadd ^ $ x\n", false},
		{"patch 5\nneeds 1\nadd ^ $ x\ntie 1.0 5.1\n", false},
		{"patch 5\nneeds 1\nadd ^ $ x\ndel 5.0\n", false},
		{"patch 5\nneeds 1\ndel 5.0\n", false},
		{"patch 5\nneeds 1\ntie 1.0 1.0\n", false},
		{"patch 5\nneeds 1\nadd ^ $ x\ntie 5.0 5.0\n", false},
	} {
		p, ok := Read(c.text)
		if !ok {
			t.Errorf("Read(%q) refused", c.text)
		}
		if got := WellFormed(p); got != c.want {
			t.Errorf("WellFormed(%q) = %v, want %v", c.text, got, c.want)
		}
	}
}

func TestLines(t *testing.T) {
	for _, c := range []struct {
		text string
		want int
	}{
		{body("del 2.0\n"), 0},
		{body("add ^ $ x\ndel 2.0\nadd ^ $ x\ntie 1.0 1.1\n"), 2},
		{body(strings.Repeat("add ^ $ x\n", 30)), 30},
	} {
		p, _ := Read(c.text)
		if got := Lines(p); got != c.want {
			t.Errorf("Lines(%q) = %d, want %d", c.text, got, c.want)
		}
	}
}
