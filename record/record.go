// Package record: the patch by which the file of a set becomes other lines.
package record

import (
	"patches/api"
	"patches/meaning"
)

// draft: a patch in the making. No patch of the set has its name, so that its own lines are known
// by that.
type draft struct {
	id      int
	web     *meaning.Web
	have    []meaning.Line
	lines   []string
	names   []api.Ref // of what will stand at each place of lines: a line that stays, or an own one
	changes []api.Change
}

// Make: the patches are as for meaning.Spin, and none of them is named id. Whether the patch has too
// many changes, or none, the caller must say.
func Make(patches []api.Patch, id int, lines []string) api.Patch {
	w := meaning.Spin(patches)
	d := &draft{id: id, web: w, have: w.Shown(), lines: lines}
	d.name()
	d.tellDead()
	for j := 0; j < len(d.names); j++ {
		d.put(j)
	}
	return api.Patch{ID: id, Needs: needs(patches, d.changes), Changes: d.changes}
}

func (d *draft) name() {
	places := stay(d.have, d.lines)
	own := 0
	for j := 0; j < len(places); j++ {
		if places[j] == none {
			d.names = append(d.names, api.Ref{P: d.id, I: own})
			own++
		} else {
			d.names = append(d.names, d.have[places[j]].Name)
		}
	}
}

func (d *draft) tellDead() {
	for i := 0; i < len(d.have); i++ {
		if !d.stays(d.have[i].Name) {
			d.changes = append(d.changes, api.Change{Kind: api.Del, Up: d.have[i].Name})
		}
	}
}

func (d *draft) stays(name api.Ref) bool {
	for j := 0; j < len(d.names); j++ {
		if d.names[j] == name {
			return true
		}
	}
	return false
}

// put: whatever stands side by side in lines must lead one to the other behind the patch.
func (d *draft) put(j int) {
	if d.isOwn(j) {
		up := d.up(j)
		down := d.down(j)
		d.changes = append(d.changes, api.Change{Kind: api.Add, Up: up, Down: down, Text: d.lines[j]})
		return
	}
	if j == 0 || d.isOwn(j-1) || d.web.Leads(d.names[j-1], d.names[j]) {
		return
	}
	d.changes = append(d.changes, api.Change{Kind: api.Tie, Up: d.names[j-1], Down: d.names[j]})
}

func (d *draft) isOwn(j int) bool { return d.names[j].P == d.id }

func (d *draft) up(j int) api.Ref {
	if j == 0 {
		return api.Ref{P: 0, I: api.StartI}
	}
	return d.names[j-1]
}

func (d *draft) down(j int) api.Ref {
	for k := j + 1; k < len(d.names); k++ {
		if !d.isOwn(k) {
			return d.names[k]
		}
	}
	return api.Ref{P: 0, I: api.EndI}
}
