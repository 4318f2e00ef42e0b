package store

import (
	"patches/api"
	"patches/patch"
	"patches/set"
)

// refusal: why p, whose text this is, can't be applied. The tests stand in the order in which the
// errors are named.
func (s *Store) refusal(p api.Patch, text string) api.Errno {
	old, ok := set.Find(s.patches, p.ID)
	if ok && patch.Write(old) == text {
		return api.ErrTwice
	}
	if ok {
		return api.ErrClash
	}
	if !s.hasNeeds(p) {
		return api.ErrNeeds
	}
	if !s.hasLines(p) {
		return api.ErrLine
	}
	all := set.With(s.patches, p)
	if !fits(all) {
		return api.ErrFull
	}
	return api.OK
}

func (s *Store) hasNeeds(p api.Patch) bool {
	for i := 0; i < len(p.Needs); i++ {
		_, ok := set.Find(s.patches, p.Needs[i])
		if !ok {
			return false
		}
	}
	return true
}

func (s *Store) hasLines(p api.Patch) bool {
	for i := 0; i < len(p.Changes); i++ {
		c := p.Changes[i]
		if !s.hasLine(p, c.Up) || !s.hasLine(p, c.Down) {
			return false
		}
	}
	return true
}

// hasLine: the file's ends (patch 0) are always there, and the own lines of a patch that is well
// formed too.
func (s *Store) hasLine(p api.Patch, r api.Ref) bool {
	if r.P == 0 || r.P == p.ID {
		return true
	}
	other, ok := set.Find(s.patches, r.P)
	return ok && r.I < patch.Lines(other)
}

// fits: may a store hold just these patches?
func fits(list []api.Patch) bool {
	lines := 0
	for i := 0; i < len(list); i++ {
		lines += patch.Lines(list[i])
	}
	return len(list) <= api.MaxPatches && lines <= api.MaxLines
}

// isNeeded: whatever has the patch in its past does so through one that names it, and that one is
// applied as well: so looking at the needs alone is enough.
func (s *Store) isNeeded(id int) bool {
	for i := 0; i < len(s.patches); i++ {
		if patch.Has(s.patches[i].Needs, id) {
			return true
		}
	}
	return false
}
