// Package patch: one patch by itself, without a store: its text, and whether it is well formed.
package patch

import "patches/api"

// Read answers false if t is no patch's text. It does not ask whether the patch is well formed:
// that is another error, and it is named later.
func Read(t string) (api.Patch, bool) {
	if len(t) > api.MaxText {
		return api.Patch{}, false
	}
	r := &reader{text: t}
	id, ok := r.head()
	if !ok {
		return api.Patch{}, false
	}
	needs, ok := r.needs()
	if !ok {
		return api.Patch{}, false
	}
	changes, ok := r.changes()
	if !ok {
		return api.Patch{}, false
	}
	return api.Patch{ID: id, Needs: needs, Changes: changes}, true
}

// maxDigits keeps numbers within MaxID.
const maxDigits = 4

// reader: at never leaves 0 to len(text), so that cutting and looking there is safe.
type reader struct {
	text string
	at   int
}

func (r *reader) takes(word string) bool {
	end := r.at + len(word)
	if end > len(r.text) || r.text[r.at:end] != word {
		return false
	}
	r.at = end
	return true
}

func (r *reader) number() (int, bool) {
	from := r.at
	n := 0
	for r.at < len(r.text) && r.text[r.at] >= '0' && r.text[r.at] <= '9' {
		if r.at-from == maxDigits {
			return 0, false
		}
		n = n*10 + int(r.text[r.at]-'0')
		r.at++
	}
	digits := r.at - from
	if digits == 0 || (digits > 1 && r.text[from] == '0') {
		return 0, false
	}
	return n, true
}

func (r *reader) name() (int, bool) {
	n, ok := r.number()
	if !ok || n == 0 {
		return 0, false
	}
	return n, true
}

func (r *reader) head() (int, bool) {
	if !r.takes("patch ") {
		return 0, false
	}
	id, ok := r.name()
	if !ok || !r.takes("\n") {
		return 0, false
	}
	return id, true
}

func (r *reader) needs() ([]int, bool) {
	if !r.takes("needs") {
		return nil, false
	}
	var needs []int
	for r.takes(" ") {
		id, ok := r.name()
		if !ok || len(needs) == api.MaxNeeds {
			return nil, false
		}
		needs = append(needs, id)
	}
	if !r.takes("\n") {
		return nil, false
	}
	return needs, true
}

func (r *reader) changes() ([]api.Change, bool) {
	var changes []api.Change
	for r.at < len(r.text) {
		c, ok := r.change()
		if !ok || len(changes) == api.MaxChanges {
			return nil, false
		}
		changes = append(changes, c)
	}
	return changes, len(changes) > 0
}

func (r *reader) change() (api.Change, bool) {
	if r.takes("add ") {
		return r.add()
	}
	if r.takes("del ") {
		return r.del()
	}
	if r.takes("tie ") {
		return r.tie()
	}
	return api.Change{}, false
}

func (r *reader) add() (api.Change, bool) {
	up, ok := r.place("^", api.StartI)
	if !ok || !r.takes(" ") {
		return api.Change{}, false
	}
	down, ok := r.place("$", api.EndI)
	if !ok || !r.takes(" ") {
		return api.Change{}, false
	}
	text, ok := r.rest()
	if !ok {
		return api.Change{}, false
	}
	return api.Change{Kind: api.Add, Up: up, Down: down, Text: text}, true
}

func (r *reader) del() (api.Change, bool) {
	line, ok := r.line()
	if !ok || !r.takes("\n") {
		return api.Change{}, false
	}
	return api.Change{Kind: api.Del, Up: line}, true
}

func (r *reader) tie() (api.Change, bool) {
	up, ok := r.line()
	if !ok || !r.takes(" ") {
		return api.Change{}, false
	}
	down, ok := r.line()
	if !ok || !r.takes("\n") {
		return api.Change{}, false
	}
	return api.Change{Kind: api.Tie, Up: up, Down: down}, true
}

// place: no line is of patch 0, so that 0 is free to stand for the file's beginning and end.
func (r *reader) place(sign string, i int) (api.Ref, bool) {
	if r.takes(sign) {
		return api.Ref{P: 0, I: i}, true
	}
	return r.line()
}

func (r *reader) line() (api.Ref, bool) {
	p, ok := r.name()
	if !ok || !r.takes(".") {
		return api.Ref{}, false
	}
	i, ok := r.number()
	if !ok {
		return api.Ref{}, false
	}
	return api.Ref{P: p, I: i}, true
}

func (r *reader) rest() (string, bool) {
	from := r.at
	for r.at < len(r.text) && isPlain(r.text[r.at]) {
		r.at++
	}
	text := r.text[from:r.at]
	if len(text) > api.MaxLine || !r.takes("\n") {
		return "", false
	}
	return text, true
}

// IsLineText: may a line have this text?
func IsLineText(text string) bool {
	if len(text) > api.MaxLine {
		return false
	}
	for i := 0; i < len(text); i++ {
		if !isPlain(text[i]) {
			return false
		}
	}
	return true
}

func isPlain(b byte) bool { return b >= 32 && b <= 126 }
