package meaning

// isAhead asks of alive lines alone, though what leads to what goes through dead ones too.
func (w *Web) isAhead(a, b int) bool {
	if w.lines[a].dead || w.lines[b].dead {
		return false
	}
	return w.leads[a][b] && !w.leads[b][a]
}

// settle: which lines are settled must be known ahead of the counting.
func (w *Web) settle() {
	for i := 0; i < len(w.lines); i++ {
		w.lines[i].settled = w.isSettled(i)
	}
	for i := 0; i < len(w.lines); i++ {
		w.count(i)
	}
}

func (w *Web) isSettled(at int) bool {
	if w.lines[at].dead {
		return false
	}
	for i := 0; i < len(w.lines); i++ {
		if i == at || w.lines[i].dead {
			continue
		}
		if !w.isAhead(i, at) && !w.isAhead(at, i) {
			return false
		}
	}
	return true
}

func (w *Web) count(at int) {
	for i := 0; i < len(w.lines); i++ {
		if !w.isAhead(i, at) {
			continue
		}
		w.lines[at].ahead++
		if w.lines[i].settled {
			w.lines[at].block++
		}
	}
}

// part: lines come by their names, so that the first one met of a strand is its least.
func (w *Web) part() {
	for i := 0; i < len(w.lines); i++ {
		if w.isLoose(i) {
			w.gather(i)
		}
	}
}

// isLoose: unsettled, and of no strand as yet.
func (w *Web) isLoose(at int) bool {
	l := w.lines[at]
	return !l.dead && !l.settled && l.strand == NoStrand
}

// gather: no line is found twice, so that the loop which lengthens found ends.
func (w *Web) gather(least int) {
	w.lines[least].strand = least
	found := []int{least}
	for i := 0; i < len(found); i++ {
		for j := 0; j < len(w.lines); j++ {
			if w.isLoose(j) && w.areTogether(found[i], j) {
				w.lines[j].strand = least
				found = append(found, j)
			}
		}
	}
}

func (w *Web) areTogether(a, b int) bool {
	if w.lines[a].block != w.lines[b].block {
		return false
	}
	return w.leads[a][b] || w.leads[b][a]
}

// isShownFirst: a block stands ahead of the settled line that has as many settled lines ahead of it.
func (w *Web) isShownFirst(a, b int) bool {
	p := w.lines[a]
	q := w.lines[b]
	if p.block != q.block {
		return p.block < q.block
	}
	if p.settled != q.settled {
		return q.settled
	}
	if p.strand != q.strand {
		return p.strand < q.strand
	}
	if p.ahead != q.ahead {
		return p.ahead < q.ahead
	}
	return a < b
}

// order: the places of the alive lines, as they are shown.
func (w *Web) order() []int {
	var places []int
	for i := 0; i < len(w.lines); i++ {
		if !w.lines[i].dead {
			places = w.insert(places, i)
		}
	}
	return places
}

func (w *Web) insert(places []int, at int) []int {
	var all []int
	i := 0
	for i < len(places) && w.isShownFirst(places[i], at) {
		all = append(all, places[i])
		i++
	}
	all = append(all, at)
	for i < len(places) {
		all = append(all, places[i])
		i++
	}
	return all
}
