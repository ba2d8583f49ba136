package central

// spot is where an id stands: its row, and its neighbours there. By these it is taken out of the midst without going through the row.
type spot struct {
	id            int
	row           *row
	ahead, behind *spot
}

// row is ids in the order in which they came.
type row struct {
	first, last *spot
	count       int
}

// put lays id behind all others: the spot where it stands.
func (r *row) put(id int) *spot {
	s := &spot{id: id, row: r, ahead: r.last}
	if r.last == nil {
		r.first = s
	} else {
		r.last.behind = s
	}
	r.last = s
	r.count++
	return s
}

// del takes the spot out.
func (r *row) del(s *spot) {
	if s.ahead == nil {
		r.first = s.behind
	} else {
		s.ahead.behind = s.behind
	}
	if s.behind == nil {
		r.last = s.ahead
	} else {
		s.behind.ahead = s.ahead
	}
	r.count--
}
