package record

import "patches/api"

// needs: a patch that put a line beside one that dies now is among them, so that the line is no
// orphan. The patches rise by their names, and the one that is made is none of them.
func needs(patches []api.Patch, changes []api.Change) []int {
	var names []int
	for i := 0; i < len(patches); i++ {
		if isNeeded(patches[i], changes) {
			names = append(names, patches[i].ID)
		}
	}
	return names
}

func isNeeded(p api.Patch, changes []api.Change) bool {
	for i := 0; i < len(changes); i++ {
		c := changes[i]
		if c.Up.P == p.ID || c.Down.P == p.ID {
			return true
		}
		if c.Kind == api.Del && putsBeside(p, c.Up) {
			return true
		}
	}
	return false
}

// putsBeside: does p put a line behind this one, or ahead of it?
func putsBeside(p api.Patch, line api.Ref) bool {
	for i := 0; i < len(p.Changes); i++ {
		c := p.Changes[i]
		if c.Kind == api.Add && (c.Up == line || c.Down == line) {
			return true
		}
	}
	return false
}
