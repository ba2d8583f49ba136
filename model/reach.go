package model

// reached is which objects can be reached, as far as is known, and of which of them the slots are still to be gone through.
type reached struct {
	is   []bool // by identity
	todo []int
}

// add says that objects can be reached; 0 is none.
func (r *reached) add(ids []int) {
	for _, id := range ids {
		if id != 0 && !r.is[id] {
			r.is[id] = true
			r.todo = append(r.todo, id)
		}
	}
}

// next is one whose slots are still to be gone through, if there is one.
func (r *reached) next() (int, bool) {
	last := len(r.todo) - 1
	if last < 0 {
		return 0, false
	}
	id := r.todo[last]
	r.todo = r.todo[:last]
	return id, true
}

// Reach is the objects that can be reached from globals and from stacks of those that are not dead, rising.
func (m *Model) Reach() []int {
	if m == nil {
		return nil
	}
	r := &reached{is: make([]bool, len(m.objects)+1)}
	r.add(m.globals)
	for _, g := range m.states.Alive() {
		r.add(m.gs[g].stack[:])
	}
	for id, some := r.next(); some; id, some = r.next() {
		r.add(m.objects[id-1])
	}
	var all []int
	for id, is := range r.is {
		if is {
			all = append(all, id)
		}
	}
	return all
}
