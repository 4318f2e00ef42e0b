package store

import (
	"patches/api"
	"patches/bundle"
	"patches/patch"
	"patches/set"
)

// Load: the store of a bundle (P7).
func Load(t string) (*Store, api.Errno) {
	if len(t) > api.MaxPatches*api.MaxText {
		return nil, api.ErrText
	}
	s := New()
	parts := bundle.Cut(t)
	for i := 0; i < len(parts); i++ {
		e := s.Apply(parts[i])
		if e != api.OK {
			return nil, e
		}
	}
	if s.Bundle() != t {
		return nil, api.ErrForm
	}
	return s, api.OK
}

// Bundle: all patches as one text (P7).
func (s *Store) Bundle() string { return bundle.Write(s.patches) }

// Pull: the patches of another store (P6). What they need comes with them, and has the lines of
// which they speak, as no name stands for two texts: so room alone can be wanting. A store that is
// nil (such as Load answers beside an error) has no patches to give.
func (s *Store) Pull(o *Store) api.Errno {
	if o == nil {
		return api.OK
	}
	if s.clashes(o.patches) {
		return api.ErrClash
	}
	all := s.joined(o.patches)
	if !fits(all) {
		return api.ErrFull
	}
	s.patches = all
	return api.OK
}

// clashes: does a name of the list stand for another text here?
func (s *Store) clashes(list []api.Patch) bool {
	for i := 0; i < len(list); i++ {
		old, ok := set.Find(s.patches, list[i].ID)
		if ok && patch.Write(old) != patch.Write(list[i]) {
			return true
		}
	}
	return false
}

// joined: two stores may share what lies within a patch, as nothing ever writes into it.
func (s *Store) joined(list []api.Patch) []api.Patch {
	all := s.patches
	for i := 0; i < len(list); i++ {
		_, ok := set.Find(s.patches, list[i].ID)
		if !ok {
			all = set.With(all, list[i])
		}
	}
	return all
}
