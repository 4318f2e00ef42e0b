package store

import (
	"patches/api"
	"patches/meaning"
)

// Show: the alive lines, marked (P5).
func (s *Store) Show() []string {
	lines := meaning.Shown(s.patches)
	var all []string
	strand := meaning.NoStrand
	for i := 0; i < len(lines); i++ {
		sign := signBetween(strand, lines[i].Strand)
		if sign != "" {
			all = append(all, sign)
		}
		all = append(all, lines[i].Mark+lines[i].Text)
		strand = lines[i].Strand
	}
	if strand != meaning.NoStrand {
		all = append(all, ">")
	}
	return all
}

// signBetween: two blocks never stand side by side (the settled line that is ahead of the one and
// not of the other stands between), so that two strands side by side are of one block.
func signBetween(a, b int) string {
	if a == b {
		return ""
	}
	if a == meaning.NoStrand {
		return "<"
	}
	if b == meaning.NoStrand {
		return ">"
	}
	return "="
}

// Clean: is nothing in conflict (P5)?
func (s *Store) Clean() bool {
	return allBlank(meaning.Shown(s.patches))
}

func allBlank(lines []meaning.Line) bool {
	for i := 0; i < len(lines); i++ {
		if lines[i].Mark != meaning.Blank {
			return false
		}
	}
	return true
}

// File: the lines (P5).
func (s *Store) File() ([]string, api.Errno) {
	lines := meaning.Shown(s.patches)
	if !allBlank(lines) {
		return nil, api.ErrConflict
	}
	var texts []string
	for i := 0; i < len(lines); i++ {
		texts = append(texts, lines[i].Text)
	}
	return texts, api.OK
}

// Credit: who added the lines that are shown (P5).
func (s *Store) Credit() []int {
	lines := meaning.Shown(s.patches)
	var names []int
	for i := 0; i < len(lines); i++ {
		names = append(names, lines[i].Name.P)
	}
	return names
}
