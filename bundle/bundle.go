// Package bundle: all patches of a set as one text.
package bundle

import (
	"patches/api"
	"patches/patch"
)

// head: how the first line of every patch's text begins, and no other line of it.
const head = "patch "

// Write takes a list that rises by the names, with all that a patch needs in it. The loop ends, as
// no patch is written twice.
func Write(list []api.Patch) string {
	text := ""
	var written []int
	for {
		p, ok := next(list, written)
		if !ok {
			return text
		}
		text += patch.Write(p)
		written = append(written, p.ID)
	}
}

// next: the list rises, so that the first which may be written is the one of the least name.
func next(list []api.Patch, written []int) (api.Patch, bool) {
	for i := 0; i < len(list); i++ {
		p := list[i]
		if !patch.Has(written, p.ID) && hasAll(written, p.Needs) {
			return p, true
		}
	}
	return api.Patch{}, false
}

func hasAll(written, needs []int) bool {
	for i := 0; i < len(needs); i++ {
		if !patch.Has(written, needs[i]) {
			return false
		}
	}
	return true
}

// Cut: the parts, put together again, are just the text. If the text itself does not begin as a
// patch does, its first part doesn't either, and so is no patch's text.
func Cut(text string) []string {
	var parts []string
	from := 0
	for from < len(text) {
		to := end(text, from)
		parts = append(parts, text[from:to])
		from = to
	}
	return parts
}

// end lies behind from, so that who goes on from there comes to the text's end.
func end(text string, from int) int {
	for i := from + 1; i+len(head) <= len(text); i++ {
		if text[i-1] == '\n' && text[i:i+len(head)] == head {
			return i
		}
	}
	return len(text)
}
