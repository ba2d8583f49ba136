package page

import "treadmill/api"

// run is a free run, and where it stands in its heap, for it is taken out of the midst, too.
type run struct {
	api.Run
	at int
}

// last is its last page.
func (r *run) last() int {
	return r.First + r.Pages - 1
}

// runs is a heap of runs by their sizes: container/heap calls its methods.
type runs []*run

// Len is how many there are.
func (h runs) Len() int {
	return len(h)
}

// Less is whether the run at i is to be taken ahead of the one at j: the lesser one, of like ones the one with the lesser first page.
func (h runs) Less(i, j int) bool {
	if h[i].Pages != h[j].Pages {
		return h[i].Pages < h[j].Pages
	}
	return h[i].First < h[j].First
}

// Swap turns the runs at i and j.
func (h runs) Swap(i, j int) {
	h[i], h[j] = h[j], h[i]
	h[i].at, h[j].at = i, j
}

// Push lays x behind all others.
func (h *runs) Push(x any) {
	r := x.(*run)
	r.at = len(*h)
	*h = append(*h, r)
}

// Pop takes the last one out.
func (h *runs) Pop() any {
	last := len(*h) - 1
	r := (*h)[last]
	(*h)[last] = nil // else the array would hold on to it
	*h = (*h)[:last]
	return r
}

// seek is where the least run stands that has at least k pages, of those at i and below it in the heap; -1, if none has.
func (h runs) seek(i, k int) int {
	if i >= len(h) {
		return -1
	}
	if h[i].Pages >= k { // all that stand below it are greater
		return i
	}
	left, right := h.seek(2*i+1, k), h.seek(2*i+2, k)
	if left < 0 || right >= 0 && h.Less(right, left) {
		return right
	}
	return left
}
