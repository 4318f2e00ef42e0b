package bundle

import (
	"slices"
	"strings"
	"testing"

	"patches/api"
	"patches/patch"
)

// listed: the patches of these texts, which come rising by their names.
func listed(t *testing.T, texts ...string) []api.Patch {
	t.Helper()
	var list []api.Patch
	for _, x := range texts {
		p, ok := patch.Read(x)
		if !ok {
			t.Fatalf("Read(%q) refused", x)
		}
		list = append(list, p)
	}
	return list
}

const (
	one   = "patch 1\nneeds\nadd ^ $ a\n"
	two   = "patch 2\nneeds 9\nadd ^ $ b\n"
	three = "patch 3\nneeds\nadd ^ $ patch 7\n"
	four  = "patch 4\nneeds 2 3\nadd ^ $ \n"
	nine  = "patch 9\nneeds\nadd ^ $ patch \n"
	ten   = "patch 10\nneeds 4\nadd ^ $ e\n"
)

func TestWrite(t *testing.T) {
	for _, c := range []struct {
		texts []string
		want  string
	}{
		{nil, ""},
		{[]string{one}, one},
		{[]string{one, three, nine}, one + three + nine},
		{[]string{two, nine}, nine + two},
		{[]string{one, two, nine}, one + nine + two},
		{[]string{two, three, nine}, three + nine + two},
		{[]string{one, two, three, four, nine, ten}, one + three + nine + two + four + ten},
		{[]string{"patch 5\nneeds 6 8\nadd ^ $ x\n", "patch 6\nneeds 7\nadd ^ $ x\n", "patch 7\nneeds 8\nadd ^ $ x\n", "patch 8\nneeds\nadd ^ $ x\n"}, "patch 8\nneeds\nadd ^ $ x\npatch 7\nneeds 8\nadd ^ $ x\npatch 6\nneeds 7\nadd ^ $ x\npatch 5\nneeds 6 8\nadd ^ $ x\n"},
	} {
		if got := Write(listed(t, c.texts...)); got != c.want {
			t.Errorf("Write of %q = %q, want %q", c.texts, got, c.want)
		}
	}
}

func TestCut(t *testing.T) {
	for _, c := range []struct {
		text string
		want []string
	}{
		{"", nil},
		{"x", []string{"x"}},
		{"patch ", []string{"patch "}},
		{one, []string{one}},
		{one + one, []string{one, one}},
		{one + three + nine, []string{one, three, nine}},
		{one + "patch", []string{one + "patch"}},
		{one + "patch ", []string{one, "patch "}},
		{one + "patch\n" + two, []string{one + "patch\n", two}},
		{one + " " + two, []string{one + " " + two}},
		{one + "Patch 2\n", []string{one + "Patch 2\n"}},
		{one + "patches 2\n", []string{one + "patches 2\n"}},
		{one + "\n" + two, []string{one + "\n", two}},
		{one + "\r" + two, []string{one + "\r" + two}},
		{"patch patch \npatch patch ", []string{"patch patch \n", "patch patch "}},
		{"patch \npatch \npatch \n", []string{"patch \n", "patch \n", "patch \n"}},
	} {
		if got := Cut(c.text); !slices.Equal(got, c.want) {
			t.Errorf("Cut(%q) = %q, want %q", c.text, got, c.want)
		}
	}
}

// Whatever the text: nothing of it is lost, and its first part begins as it does itself.
func TestCutKeepsAll(t *testing.T) {
	whole := "x\n" + one + two + "\n\n" + three + "patch" + four
	for from := range whole {
		for to := from; to <= len(whole); to++ {
			text := whole[from:to]
			parts := Cut(text)
			if strings.Join(parts, "") != text || slices.Contains(parts, "") {
				t.Fatalf("Cut(%q) = %q", text, parts)
			}
			for k, p := range parts {
				if strings.HasPrefix(p, "patch ") != (k > 0 || strings.HasPrefix(text, "patch ")) {
					t.Fatalf("Cut(%q) = %q", text, parts)
				}
			}
		}
	}
}
