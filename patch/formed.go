package patch

import "patches/api"

// WellFormed looks at the patch alone: whether the patches that it names are there, and have the
// lines of which it speaks, a store must say.
func WellFormed(p api.Patch) bool {
	if !rise(p.Needs) || Has(p.Needs, p.ID) {
		return false
	}
	own := 0
	for i := 0; i < len(p.Changes); i++ {
		c := p.Changes[i]
		if !changeFormed(p, c, own) {
			return false
		}
		if c.Kind == api.Add {
			own++
		}
	}
	return true
}

// Lines: how many lines the patch adds.
func Lines(p api.Patch) int {
	n := 0
	for i := 0; i < len(p.Changes); i++ {
		if p.Changes[i].Kind == api.Add {
			n++
		}
	}
	return n
}

// Has: is the name in the list?
func Has(names []int, id int) bool {
	for i := 0; i < len(names); i++ {
		if names[i] == id {
			return true
		}
	}
	return false
}

func rise(names []int) bool {
	for i := 1; i < len(names); i++ {
		if names[i-1] >= names[i] {
			return false
		}
	}
	return true
}

// changeFormed: own is the number of the patch's lines that were added ahead of c.
func changeFormed(p api.Patch, c api.Change, own int) bool {
	if !maySpeakOf(p, c.Up, own) || !maySpeakOf(p, c.Down, own) {
		return false
	}
	if c.Kind == api.Del {
		return c.Up.P != p.ID
	}
	if c.Kind == api.Tie {
		return c.Up != c.Down
	}
	return true
}

func maySpeakOf(p api.Patch, r api.Ref, own int) bool {
	if r.P == 0 {
		return true
	}
	if r.P == p.ID {
		return r.I < own
	}
	return Has(p.Needs, r.P)
}
