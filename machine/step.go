package machine

import (
	"treadmill/api"
	"treadmill/barrier"
	"treadmill/pacer"
	"treadmill/share"
)

const (
	mostTicks = 1 << 20         // that go by in one step
	mostTurn  = api.Quantum / 4 // commits in a row, if others are to run: less than may be, for of a thousand goroutines each is to have its turn soon
	patience  = 48              // so many steps of a P Off goes on at least, else cycles that follow at once on one another would leave none for goroutines
)

// processor is a P.
type processor struct {
	runs   int  // the goroutine that it runs, or none
	turn   int  // how many instructions of it in a row
	picks  int  // how often it took one
	served bool // the last one that it took was one of those who wait

	// Since the cycle began, or since it ended: all its steps, and those that it gave to the collector, but for what an instruction took.
	steps, worked int64
	gave          bool // the last one was such

	notes *barrier.Barrier
}

// newProcessor is a P that runs nobody.
func newProcessor() *processor {
	return &processor{runs: none, notes: barrier.New()}
}

// act is what a step may be, of a P with its victim.
type act func(p, victim int) api.Event

// Step is one step of a P: what it was.
func (m *Machine) Step(ch api.Choice) api.Event {
	nothing := api.Event{Kind: api.EvNone, G: none}
	if !m.may(ch.P) {
		return nothing
	}
	m.steps++
	m.freed = nil
	m.tick(ch.Tick)
	does := m.choose(ch)
	r := m.ps[ch.P]
	r.steps++ // ahead of what is done, which may begin to count anew
	r.gave = false
	if does == nil {
		return nothing
	}
	return does(ch.P, ch.Victim)
}

// Enabled is whether a step of p would do something, if nobody is taken off, no time goes by, and it steals from nobody.
func (m *Machine) Enabled(p int) bool {
	return m.may(p) && m.choose(api.Choice{P: p, Victim: p}) != nil
}

// may is whether p may step.
func (m *Machine) may(p int) bool {
	return m != nil && m.status == api.Runs && p >= 0 && p < len(m.ps)
}

// tick lets time go by: who has slept enough may run.
func (m *Machine) tick(n int) {
	m.clock += int64(min(max(n, 0), mostTicks))
	for _, g := range m.timers.Due(m.clock) {
		m.ready(g)
	}
}

// choose is what a P's step is to be; nil, if there is nothing to be done there. It changes nothing.
func (m *Machine) choose(ch api.Choice) act {
	p := ch.P
	running := m.ps[p].runs != none
	idle := !running && !m.mayTake(p, ch.Victim)
	switch {
	case running && ch.Preempt:
		return m.putAway
	case m.Phase() == api.Term:
		return m.beginSweep
	case m.isDue(p):
		return m.beginMark
	case running && m.mustLeave(p):
		return m.putAway
	case m.works(p, idle):
		return m.work
	case running:
		return m.run
	case m.serves(p, idle):
		return m.serve
	case !idle:
		return m.take
	}
	return nil
}

// mayTake is whether there is a goroutine that p may take.
func (m *Machine) mayTake(p, victim int) bool {
	return m.queued(p) || victim != p && len(m.sched.Local(victim)) > 0
}

// queued is whether a goroutine stands in p's queue or the common one.
func (m *Machine) queued(p int) bool {
	return m.states.Count(api.GRunnable) > 0 && (len(m.sched.Local(p)) > 0 || len(m.sched.Common()) > 0)
}

// isDue is whether a cycle is to begin by p's step, for what lives.
func (m *Machine) isDue(p int) bool {
	if m.Phase() != api.Off || !pacer.Begin(m.goal, m.Live()) {
		return false
	}
	nobody := m.states.Count(api.GRunnable)+m.states.Count(api.GRuns)+len(m.waiting) == 0
	return nobody || m.ps[p].steps >= patience
}

// mustLeave is whether p is to put away the goroutine that it runs.
func (m *Machine) mustLeave(p int) bool {
	switch {
	case m.isAlone(p) || m.owes():
		return true
	case m.ps[p].turn < mostTurn:
		return false
	}
	return m.queued(p) || m.first() != none
}

// isAlone is whether p works for the collector alone now, and others run its goroutines.
func (m *Machine) isAlone(p int) bool {
	return m.Phase() != api.Off && p < m.alone && m.alone < len(m.ps)
}

// works is whether p's step is the collector's; p is idle if it runs nobody, and may take nobody.
func (m *Machine) works(p int, idle bool) bool {
	r := m.ps[p]
	switch {
	case m.Phase() == api.Off:
		return false
	case idle || m.still || p < m.alone:
		return true
	case len(m.waiting) > 0 && !r.gave: // who waits for the collector has as much of the P as others
		return true
	}
	return share.May(r.worked, r.steps, m.part)
}

// run does the next instruction of the goroutine that p runs, or what it takes to get there.
func (m *Machine) run(p, _ int) api.Event {
	d, why := m.try(p, m.ps[p].runs)
	switch why {
	case noNotes:
		return m.denote(p)
	case noSweep:
		return m.sweep()
	case noCredit, noTurn, noRoom:
		return m.lacks(p, why)
	}
	return m.commit(p, d)
}

// take begins to run a goroutine, and does its next instruction, if that can be done at once.
func (m *Machine) take(p, victim int) api.Event {
	r := m.ps[p]
	r.picks++
	r.served = false
	g, _ := m.sched.Pick(p, r.picks, victim)
	m.start(p, g)
	if d, why := m.try(p, g); why == fine {
		return m.commit(p, d)
	}
	return api.Event{Kind: api.EvSched, G: g}
}

// putAway lets others run in the place of the goroutine that p runs.
func (m *Machine) putAway(p, _ int) api.Event {
	g := m.ps[p].runs
	e := m.leave(p, api.GRunnable)
	m.sched.Global(g)
	return e
}

// start lets p run a goroutine that is runnable.
func (m *Machine) start(p, g int) {
	m.states.Move(g, api.GRuns)
	m.ps[p].runs, m.ps[p].turn = g, 0
}

// leave takes the goroutine that p runs off it.
func (m *Machine) leave(p, to int) api.Event {
	g := m.ps[p].runs
	m.states.Move(g, to)
	m.ps[p].runs = none
	return api.Event{Kind: api.EvSched, G: g}
}

// ready makes a goroutine runnable that waited or assisted. It stands behind all others: who woke one another in a P's queue would keep the common one from it.
func (m *Machine) ready(g int) {
	m.states.Move(g, api.GRunnable)
	m.sched.Global(g)
}
