// Package store: files as sets of patches: see DOC.md.
package store

import (
	"patches/api"
	"patches/patch"
	"patches/set"
)

// Store: a set of patches.
type Store struct {
	patches []api.Patch // rising by their names, so that the order in which they came leaves no trace
}

// New: an empty one (P2).
func New() *Store { return &Store{} }

// Apply: a patch comes (P2).
func (s *Store) Apply(text string) api.Errno {
	p, ok := patch.Read(text)
	if !ok {
		return api.ErrText
	}
	if !patch.WellFormed(p) {
		return api.ErrForm
	}
	e := s.refusal(p, text)
	if e != api.OK {
		return e
	}
	s.patches = set.With(s.patches, p)
	return api.OK
}

// Unapply: a patch goes (P3).
func (s *Store) Unapply(id int) api.Errno {
	_, ok := set.Find(s.patches, id)
	if !ok {
		return api.ErrNone
	}
	if s.isNeeded(id) {
		return api.ErrLeans
	}
	s.patches = set.Without(s.patches, id)
	return api.OK
}

// Log: the names of the patches (P4).
func (s *Store) Log() []int {
	var names []int
	for i := 0; i < len(s.patches); i++ {
		names = append(names, s.patches[i].ID)
	}
	return names
}

// Text: of a patch (P4).
func (s *Store) Text(id int) (string, api.Errno) {
	p, ok := set.Find(s.patches, id)
	if !ok {
		return "", api.ErrNone
	}
	return patch.Write(p), api.OK
}

// Past: all that a patch needs, and what that needs (P4).
func (s *Store) Past(id int) ([]int, api.Errno) {
	p, ok := set.Find(s.patches, id)
	if !ok {
		return nil, api.ErrNone
	}
	return set.Past(s.patches, p), api.OK
}
