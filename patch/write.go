package patch

import (
	"strconv"

	"patches/api"
)

// Write gives back to the byte the text that was read: a patch has just one text, since numbers
// have no needless 0 and words just one blank between. So a store need not keep the text too.
func Write(p api.Patch) string {
	t := "patch " + strconv.Itoa(p.ID) + "\nneeds"
	for i := 0; i < len(p.Needs); i++ {
		t += " " + strconv.Itoa(p.Needs[i])
	}
	t += "\n"
	for i := 0; i < len(p.Changes); i++ {
		t += changeText(p.Changes[i])
	}
	return t
}

func changeText(c api.Change) string {
	up := placeText(c.Up)
	if c.Kind == api.Del {
		return "del " + up + "\n"
	}
	down := placeText(c.Down)
	if c.Kind == api.Tie {
		return "tie " + up + " " + down + "\n"
	}
	return "add " + up + " " + down + " " + c.Text + "\n"
}

func placeText(r api.Ref) string {
	if r.P != 0 {
		name := strconv.Itoa(r.P)
		return name + "." + strconv.Itoa(r.I)
	}
	if r.I == api.StartI {
		return "^"
	}
	return "$"
}
