package arena

import "treadmill/api"

// Find is the span and the place of the object that is there; is one?
func (a *Arena) Find(addr int) (api.Slot, bool) {
	h, i := a.object(addr)
	if h == nil {
		return api.Slot{}, false
	}
	return api.Slot{Span: h.id, Index: i}, true
}

// Len is how many slots the object has that is there; 0, if none is.
func (a *Arena) Len(addr int) int {
	return len(a.slots(addr))
}

// Load is what stands in slot i of the object that is there, and an error.
func (a *Arena) Load(addr, i int) (int, int) {
	slots := a.slots(addr)
	if err := may(slots, i); err != api.OK {
		return 0, err
	}
	return slots[i], api.OK
}

// Store lays v into slot i of the object that is there.
func (a *Arena) Store(addr, i, v int) int {
	slots := a.slots(addr)
	if err := may(slots, i); err != api.OK {
		return err
	}
	slots[i] = v
	return api.OK
}

// Mark marks the object that is there; is there one, and was it not marked?
func (a *Arena) Mark(addr int) bool {
	h, i := a.object(addr)
	return h != nil && h.span.Mark(i)
}

// Marked is whether the object that is there is.
func (a *Arena) Marked(addr int) bool {
	h, i := a.object(addr)
	return h != nil && h.span.Marked(i)
}

// object is the span and the place of the object whose first word is at addr; nil, if none is there.
func (a *Arena) object(addr int) (*hold, int) {
	if a == nil {
		return nil, 0
	}
	h := a.at[addr/api.PageWords]
	if h == nil {
		return nil, 0
	}
	i, ok := h.span.At(addr)
	if !ok || !h.span.Used(i) {
		return nil, 0
	}
	return h, i
}

// slots is those of the object that is there; none, if none is: an object has one at least.
func (a *Arena) slots(addr int) []int {
	h, i := a.object(addr)
	if h == nil {
		return nil
	}
	return h.slots(i)
}

// may is the error of slot i of an object with these slots.
func may(slots []int, i int) int {
	switch {
	case len(slots) == 0:
		return api.ErrNone
	case i < 0 || i >= len(slots):
		return api.ErrRange
	}
	return api.OK
}
