package meaning

import (
	"patches/api"
	"patches/patch"
)

// The marks.
const (
	Blank     = " "
	Unsettled = "|"
	Ring      = "@"
	Orphan    = "!"
)

// mark: where several apply, the one named first.
func (w *Web) mark(at int) string {
	if w.isOrphan(at) {
		return Orphan
	}
	if w.isInRing(at) {
		return Ring
	}
	if !w.lines[at].settled {
		return Unsettled
	}
	return Blank
}

// isOrphan: nobody who knew both that the line is put there, and that its neighbour is dead, has
// said that this is as it should be.
func (w *Web) isOrphan(at int) bool {
	l := w.lines[at]
	for i := 0; i < len(w.patches); i++ {
		if !w.areAware(i, l.patch) && isNeighbourDead(w.patches[i], l) {
			return true
		}
	}
	return false
}

func isNeighbourDead(p api.Patch, l line) bool {
	return tellsDead(p, l.up) || tellsDead(p, l.down)
}

// areAware: are the patches at these places one, or one of them in the past of the other?
func (w *Web) areAware(a, b int) bool {
	if a == b {
		return true
	}
	return patch.Has(w.pasts[a], w.patches[b].ID) || patch.Has(w.pasts[b], w.patches[a].ID)
}

func (w *Web) isInRing(at int) bool {
	for i := 0; i < len(w.lines); i++ {
		if i != at && !w.lines[i].dead && w.leads[at][i] && w.leads[i][at] {
			return true
		}
	}
	return false
}
