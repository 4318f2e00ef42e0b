package store

import (
	"patches/api"
	"patches/patch"
	"patches/record"
	"patches/set"
)

// Record: the patch by which the file becomes these lines (P8). The tests stand in the order in
// which the errors are named.
func (s *Store) Record(id int, lines []string) (string, api.Errno) {
	if id < 1 || id > api.MaxID || !mayBeFile(lines) {
		return "", api.ErrArg
	}
	_, ok := set.Find(s.patches, id)
	if ok {
		return "", api.ErrTwice
	}
	p := record.Make(s.patches, id, lines)
	if len(p.Changes) > api.MaxChanges {
		return "", api.ErrFull
	}
	if len(p.Changes) == 0 {
		return "", api.ErrSame
	}
	return patch.Write(p), api.OK
}

func mayBeFile(lines []string) bool {
	if len(lines) > api.MaxWant {
		return false
	}
	for i := 0; i < len(lines); i++ {
		if !patch.IsLineText(lines[i]) {
			return false
		}
	}
	return true
}
