// Package set: patches together, as a list that rises by their names. All that a patch needs is in
// the list too.
package set

import (
	"patches/api"
	"patches/patch"
)

// Find answers false, and no patch, if there is none of that name.
func Find(list []api.Patch, id int) (api.Patch, bool) {
	for i := 0; i < len(list); i++ {
		if list[i].ID == id {
			return list[i], true
		}
	}
	return api.Patch{}, false
}

// Past: found holds no name twice, and only names of patches of the list, so that the loop which
// lengthens it ends.
func Past(list []api.Patch, p api.Patch) []int {
	var found []int
	found = append(found, p.Needs...)
	for i := 0; i < len(found); i++ {
		q, _ := Find(list, found[i])
		for j := 0; j < len(q.Needs); j++ {
			if !patch.Has(found, q.Needs[j]) {
				found = append(found, q.Needs[j])
			}
		}
	}
	return rising(list, found)
}

func rising(list []api.Patch, found []int) []int {
	var names []int
	for i := 0; i < len(list); i++ {
		if patch.Has(found, list[i].ID) {
			names = append(names, list[i].ID)
		}
	}
	return names
}

// With: a list of its own, with p at its place.
func With(list []api.Patch, p api.Patch) []api.Patch {
	var all []api.Patch
	i := 0
	for i < len(list) && list[i].ID < p.ID {
		all = append(all, list[i])
		i++
	}
	all = append(all, p)
	for i < len(list) {
		all = append(all, list[i])
		i++
	}
	return all
}

// Without: a list of its own, without the patch of that name.
func Without(list []api.Patch, id int) []api.Patch {
	var rest []api.Patch
	for i := 0; i < len(list); i++ {
		if list[i].ID != id {
			rest = append(rest, list[i])
		}
	}
	return rest
}
