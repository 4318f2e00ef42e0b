package meaning

import (
	"patches/api"
	"patches/set"
)

// Web: the lines of a set, dead ones too, by their names: so of two lines the one that is found
// first has the lesser name.
type Web struct {
	patches []api.Patch
	pasts   [][]int // of the patches, each at its patch's place
	lines   []line
	leads   [][]bool // does the line at the first place lead to the one at the second?
}

type line struct {
	name     api.Ref
	up, down api.Ref
	text     string
	patch    int // the place of its patch
	dead     bool
	settled  bool
	ahead    int // alive lines ahead of it
	block    int // settled lines ahead of it
	strand   int
}

// Spin: the patches rise by their names, and all that they need and speak of is among them.
func Spin(patches []api.Patch) *Web {
	w := &Web{patches: patches}
	for i := 0; i < len(patches); i++ {
		w.pasts = append(w.pasts, set.Past(patches, patches[i]))
		w.addLines(i)
	}
	w.lead()
	w.leadOn()
	w.settle()
	w.part()
	return w
}

func (w *Web) addLines(at int) {
	p := w.patches[at]
	n := 0
	for i := 0; i < len(p.Changes); i++ {
		c := p.Changes[i]
		if c.Kind != api.Add {
			continue
		}
		name := api.Ref{P: p.ID, I: n}
		n++
		dead := w.isToldDead(name)
		w.lines = append(w.lines, line{name: name, up: c.Up, down: c.Down, text: c.Text, patch: at, dead: dead, strand: NoStrand})
	}
}

func (w *Web) isToldDead(name api.Ref) bool {
	for i := 0; i < len(w.patches); i++ {
		if tellsDead(w.patches[i], name) {
			return true
		}
	}
	return false
}

func tellsDead(p api.Patch, name api.Ref) bool {
	for i := 0; i < len(p.Changes); i++ {
		if p.Changes[i].Kind == api.Del && p.Changes[i].Up == name {
			return true
		}
	}
	return false
}

// lead: what the changes themselves say.
func (w *Web) lead() {
	for i := 0; i < len(w.lines); i++ {
		w.leads = append(w.leads, make([]bool, len(w.lines)))
	}
	for i := 0; i < len(w.lines); i++ {
		l := w.lines[i]
		w.join(l.up, l.name)
		w.join(l.name, l.down)
	}
	for i := 0; i < len(w.patches); i++ {
		changes := w.patches[i].Changes
		for j := 0; j < len(changes); j++ {
			if changes[j].Kind == api.Tie {
				w.join(changes[j].Up, changes[j].Down)
			}
		}
	}
}

// join: the file's beginning and end are no lines, and lead to nothing.
func (w *Web) join(up, down api.Ref) {
	a := w.place(up)
	b := w.place(down)
	if a >= 0 && b >= 0 {
		w.leads[a][b] = true
	}
}

func (w *Web) place(name api.Ref) int {
	for i := 0; i < len(w.lines); i++ {
		if w.lines[i].name == name {
			return i
		}
	}
	return -1
}

// leadOn: one round for each line on the way is enough, if the line on the way is the outer loop.
func (w *Web) leadOn() {
	n := len(w.lines)
	for way := 0; way < n; way++ {
		for a := 0; a < n; a++ {
			if !w.leads[a][way] {
				continue
			}
			for b := 0; b < n; b++ {
				if w.leads[way][b] {
					w.leads[a][b] = true
				}
			}
		}
	}
}
