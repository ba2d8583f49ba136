package machine

import (
	"slices"

	"treadmill/api"
)

// View is what is seen of it.
func (m *Machine) View() api.View {
	if m == nil {
		return api.View{}
	}
	v := api.View{
		Phase:   m.Phase(),
		Cycle:   m.Cycle(),
		Clock:   m.clock,
		Globals: slices.Clone(m.globals),
		Grey:    m.pool.Len(),
		Roots:   m.roots.Left(),
	}
	for _, r := range m.ps {
		v.Notes += r.notes.Len()
	}
	at := m.whereabouts()
	for g, r := range m.gs {
		v.Gs = append(v.Gs, api.Goroutine{State: m.states.Of(g), P: at[g], Stack: slices.Clone(r.stack[:])})
	}
	for _, addr := range m.heap.Arena().Objects() {
		v.Objects = append(v.Objects, m.object(addr))
	}
	return v
}

// whereabouts is of each goroutine the P that runs it, or in whose queue it is, or none.
func (m *Machine) whereabouts() []int {
	at := slices.Repeat([]int{none}, len(m.gs))
	for p, r := range m.ps {
		for _, g := range m.sched.Local(p) {
			at[g] = p
		}
		if r.runs != none {
			at[r.runs] = p
		}
	}
	return at
}

// object is an object as it is seen.
func (m *Machine) object(addr int) api.Object {
	a := m.heap.Arena()
	o := api.Object{Addr: addr, Marked: a.Marked(addr)}
	for i := range a.Len(addr) {
		v, _ := a.Load(addr, i)
		o.Slots = append(o.Slots, v)
	}
	return o
}
