package cache

import "treadmill/api"

// refill sees to it that a P has a span of class k with room: the addresses that were swept on the way, and an error.
func (h *Heap) refill(p, k int) ([]int, int) {
	if !h.arena.Full(h.own[p][k]) {
		return nil, api.OK
	}
	h.release(p, k)
	id, gone, err := h.seek(k)
	if err != api.OK {
		return gone, err
	}
	h.own[p][k] = id
	h.set(id, owned)
	return gone, api.OK
}

// seek takes a span of class k with room out of common, or makes one: its id, the addresses that were swept on the way, and an error.
func (h *Heap) seek(k int) (int, []int, int) {
	var gone []int
	sweep := func(id int) {
		more, _ := h.arena.Sweep(id)
		gone = append(gone, more...)
	}
again:
	for {
		id, dirty, ok := h.central.Take(k)
		switch {
		case !ok:
			if id, ok = h.central.TakeFull(k); !ok {
				break again
			}
			sweep(id)
		case dirty:
			sweep(id)
		}
		if !h.arena.Full(id) {
			return id, gone, api.OK
		}
		h.put(k, id)
	}
	id, err := h.arena.Span(k)
	if err == api.ErrFull {
		h.Drop()
		id, err = h.arena.Span(k)
	}
	return id, gone, err
}

// release lays a P's span of class k in common, if it has one.
func (h *Heap) release(p, k int) {
	if id := h.own[p][k]; id != none {
		h.put(k, id)
		h.own[p][k] = none
	}
}

// put lays a span in common: it is swept.
func (h *Heap) put(k, id int) {
	h.central.Put(k, id, h.arena.Full(id))
	h.set(id, swept)
}

// of is where a span is.
func (h *Heap) of(id int) int8 {
	if id >= len(h.where) {
		return strange
	}
	return h.where[id]
}

// set tells where a span is from now on.
func (h *Heap) set(id int, where int8) {
	for id >= len(h.where) { // the arena gives the least free id, so there are hardly more than spans
		h.where = append(h.where, strange)
	}
	h.where[id] = where
}
