package arena

import (
	"treadmill/class"
	"treadmill/span"
)

// hold is a span with its id and what its objects hold.
type hold struct {
	id    int
	span  *span.Span
	lens  []int // how many slots each place's object has; of a free place nothing is meant by it
	words []int
}

// newHold is a span of class k, which is one, at a page that is one.
func newHold(id, first, k int) *hold {
	s, _ := span.New(first, k)
	slots := class.Slots(k)
	return &hold{id: id, span: s, lens: make([]int, slots), words: make([]int, slots*class.Size(k))}
}

// size is that of its places.
func (h *hold) size() int {
	return class.Size(h.span.Class())
}

// slots is those of the object at place i.
func (h *hold) slots(i int) []int {
	from := i * h.size()
	return h.words[from : from+h.lens[i]]
}

// begin makes place i an object of n slots; what was there ahead of it is not to be seen.
func (h *hold) begin(i, n int) {
	h.lens[i] = n
	clear(h.slots(i))
}

// objects lays the addresses of its objects behind addrs.
func (h *hold) objects(addrs []int) []int {
	for i := range h.span.Slots() {
		if h.span.Used(i) {
			addrs = append(addrs, h.span.Addr(i))
		}
	}
	return addrs
}
