package machine

import (
	"treadmill/api"
	"treadmill/class"
	"treadmill/credit"
	"treadmill/fix"
)

// alloc makes an object. Room is asked for last, so that nobody waits for it who could not take it.
func (m *Machine) alloc(p, g int, in api.Inst) outcome {
	words := m.wantedBy(in)
	switch m.Phase() {
	case api.Off:
	case api.Mark:
		m.mustWait()
		if !m.trusts(g, words) {
			panic(noCredit)
		}
	default:
		m.mustWait()
		if m.isBehind(words) {
			panic(noSweep)
		}
	}
	addr := m.place(p, in.B+1)
	m.account(g, words)
	m.gs[g].stack[in.A] = addr
	return on(addr)
}

// mustWait keeps what a cycle frees for those who wait for it.
func (m *Machine) mustWait() {
	if m.starved > 0 {
		panic(noTurn)
	}
}

// wanted is the words of the object that a goroutine is to allocate next.
func (m *Machine) wanted(g int) int {
	return m.wantedBy(m.next(g))
}

// wantedBy is the words of an allocation's object.
func (m *Machine) wantedBy(in api.Inst) int {
	return class.Size(class.Of(in.B + 1))
}

// trusts is whether g may allocate so many words more while marking goes on: it takes of the bank what it owes.
func (m *Machine) trusts(g, words int) bool {
	if m.covers(g, words) {
		return true
	}
	m.credit.Steal(g)
	return m.covers(g, words)
}

// covers is whether what g scanned lets it allocate so many words more.
func (m *Machine) covers(g, words int) bool {
	if m.goal.Ratio <= 0 {
		return true
	}
	allocated, scanned := m.credit.Sums(g)
	most := fix.Add(credit.Over, fix.Int(fix.Div(fix.Whole(scanned), m.goal.Ratio)))
	return fix.Add(allocated, int64(words)) <= most
}

// place is the address of a new object of n slots. What other Ps hold of spans is common ahead of telling that there is no room.
func (m *Machine) place(p, n int) int {
	for range 2 {
		addr, gone, err := m.heap.Alloc(p, n, m.Phase() == api.Mark)
		m.free(gone)
		if err == api.OK {
			m.book.add(addr)
			return addr
		}
		m.flushSpans()
	}
	panic(noRoom)
}

// flushSpans lays all Ps' spans in common.
func (m *Machine) flushSpans() {
	for p := range m.ps {
		m.heap.Flush(p)
	}
}

// free tells objects that were swept.
func (m *Machine) free(gone []int) {
	for _, addr := range gone {
		m.book.del(addr)
	}
	m.freed = append(m.freed, gone...)
}

// account counts words that g allocated, by the phase.
func (m *Machine) account(g, words int) {
	switch m.Phase() {
	case api.Mark:
		m.credit.Alloc(g, words)
		m.marked += int64(words)
	case api.Sweep:
		m.pace.now += int64(words)
	}
}
