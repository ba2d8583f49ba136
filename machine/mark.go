package machine

import (
	"treadmill/api"
	"treadmill/credit"
	"treadmill/roots"
	"treadmill/scan"
)

// A cycle's marking is cut into some parts of a step each, neither too small nor too great.
const (
	parts     = 32
	leastUnit = api.Chunk
	mostUnit  = 1024
)

// beginMark begins a cycle.
func (m *Machine) beginMark(_, _ int) api.Event {
	m.phases.Begin()
	m.roots = roots.New(len(m.globals), m.states.Alive())
	m.credit = credit.New(m.goal.Ratio)
	m.unit = min(max((m.words+api.Stack*len(m.gs))/parts, leastUnit), mostUnit)
	m.marked = 0
	m.began = len(m.commits)
	for p := range m.ps {
		if m.isAlone(p) {
			m.sched.Drop(p)
		}
	}
	m.recount()
	return m.turned()
}

// turned tells a phase that began.
func (m *Machine) turned() api.Event {
	return api.Event{Kind: api.EvPhase, G: none, Phase: m.Phase()}
}

// recount lets all Ps' steps be counted anew.
func (m *Machine) recount() {
	for _, r := range m.ps {
		r.steps, r.worked = 0, 0
	}
}

// work does some of the collector's work.
func (m *Machine) work(p, _ int) api.Event {
	r := m.ps[p]
	r.worked++
	r.gave = true
	if m.Phase() == api.Sweep {
		return m.sweep()
	}
	if full, _ := m.pool.Lists(); full == 0 && m.roots.Left() == 0 {
		return m.finish()
	}
	return m.credited(m.mark(p))
}

// worked tells work that the collector did for itself.
func worked() api.Event {
	return api.Event{Kind: api.EvWork, G: none}
}

// mark scans some words: how many. All that is found grey is common behind it, so that whoever is picked next finds it.
func (m *Machine) mark(p int) int {
	m.shade(p, m.ps[p].notes.Flush())
	words := 0
	for words < m.unit {
		n, some := m.scan(p)
		if !some {
			break
		}
		words += n
	}
	m.pool.Flush(p)
	return words
}

// scan scans one root, or one grey object: how many words, and whether there was one.
func (m *Machine) scan(p int) (int, bool) {
	if job, some := m.roots.Next(); some {
		return m.scanRoot(p, job), true
	}
	addr, some := m.pool.Get(p)
	if !some {
		return 0, false
	}
	load := func(addr, i int) int {
		v, _ := m.heap.Arena().Load(addr, i)
		return v
	}
	s := scan.New(addr, m.heap.Arena().Len(addr))
	n := s.Left()
	for !s.Done() {
		m.shade(p, s.Step(load))
	}
	return n, true
}

// scanRoot scans some globals, or a stack; the dead have none.
func (m *Machine) scanRoot(p int, job api.Job) int {
	from := m.globals
	if job.G != none {
		if m.states.Of(job.G) == api.GDead {
			return 0
		}
		from = m.gs[job.G].stack[:]
	}
	m.shade(p, scan.All(job.To-job.From, func(i int) int { return from[job.From+i] }))
	return job.To - job.From
}

// shade marks objects; those that were not are grey: how many.
func (m *Machine) shade(p int, addrs []int) int {
	grey := 0
	for _, addr := range addrs {
		if addr != 0 && m.heap.Arena().Mark(addr) {
			m.pool.Put(p, addr)
			m.marked += int64(m.book.size(addr))
			grey++
		}
	}
	return grey
}

// denote makes room for notes.
func (m *Machine) denote(p int) api.Event {
	m.shade(p, m.ps[p].notes.Flush())
	m.pool.Flush(p)
	return worked()
}

// finish asks each P, where nothing is grey and no root is left, what it noted; marking ends if nobody has found anything since all were asked last.
func (m *Machine) finish() api.Event {
	for p, r := range m.ps {
		found := m.shade(p, r.notes.Flush())
		m.pool.Flush(p)
		m.phases.Say(p, found == 0, m.pool.Flushed(p))
		m.pool.Reset(p)
	}
	if m.phases.Term() != api.OK {
		return worked()
	}
	return m.turned()
}
