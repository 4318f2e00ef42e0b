// Package meaning: what a set of patches means: which of its lines are alive, what leads to what,
// how the alive lines are marked, and in which order they are shown.
package meaning

import "patches/api"

// NoStrand: of settled lines.
const NoStrand = -1

// Line: an alive line. Strand is the same number for the lines of one strand, and for no others.
type Line struct {
	Name   api.Ref
	Text   string
	Mark   string
	Strand int
}

// Shown: the alive lines of the set in the order in which they are shown. The patches are as for
// Spin.
func Shown(patches []api.Patch) []Line {
	w := Spin(patches)
	return w.Shown()
}

// Shown: the alive lines in the order in which they are shown.
func (w *Web) Shown() []Line {
	places := w.order()
	var lines []Line
	for i := 0; i < len(places); i++ {
		at := places[i]
		l := w.lines[at]
		lines = append(lines, Line{Name: l.name, Text: l.text, Mark: w.mark(at), Strand: l.strand})
	}
	return lines
}

// Leads: does the line a lead to the line b? What is no line of the set leads to nothing, and
// nothing leads to it.
func (w *Web) Leads(a, b api.Ref) bool {
	i := w.place(a)
	j := w.place(b)
	return i >= 0 && j >= 0 && w.leads[i][j]
}
