// Package meaning: what a set of patches means: which of its lines are alive, what leads to what,
// how the alive lines are marked, and in which order they are shown.
package meaning

import "patches/api"

// NoStrand: of settled lines.
const NoStrand = -1

// Line: an alive line. Strand is the same number for the lines of one strand, and for no others.
type Line struct {
	Name   api.Ref
	Text   string
	Mark   string
	Strand int
}

// Shown: the alive lines of the set in the order in which they are shown. The patches rise by their
// names, and all that they need and speak of is among them.
func Shown(patches []api.Patch) []Line {
	w := spin(patches)
	w.settle()
	w.part()
	places := w.order()
	var lines []Line
	for i := 0; i < len(places); i++ {
		at := places[i]
		l := w.lines[at]
		lines = append(lines, Line{Name: l.name, Text: l.text, Mark: w.mark(at), Strand: l.strand})
	}
	return lines
}
