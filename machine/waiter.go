package machine

import (
	"slices"

	"treadmill/api"
)

// untried is said of an allocation for which no room was sought so far.
const untried = -1

// waiter is a goroutine that assists: it waits for credit, or for room.
type waiter struct {
	g, words int // that it wants to allocate
	room     bool
	since    int // the cycle in which there was no room first, or untried
}

// lacks lets the goroutine that p runs wait for credit, or for room.
func (m *Machine) lacks(p int, why trouble) api.Event {
	g := m.ps[p].runs
	w := waiter{g: g, words: m.wanted(g), room: why != noCredit, since: untried}
	if why == noRoom {
		w.since = m.Cycle()
	}
	if w.room {
		m.starved++
	}
	m.waiting = append(m.waiting, w)
	return m.leave(p, api.GAssists)
}

// first is the place of the first one that waits and may be tried now: where it stands, or none. Who waits for room waits for the end of a cycle, and lets nobody get ahead till then.
func (m *Machine) first() int {
	switch {
	case len(m.waiting) == 0:
		return none
	case m.Phase() == api.Off:
		return 0
	case m.starved > 0:
		return none
	case m.Phase() == api.Mark:
		return slices.IndexFunc(m.waiting, func(w waiter) bool { return m.covers(w.g, w.words) })
	}
	return 0
}

// serves is whether p is to try for one of those who wait: in turn with others, but first behind a cycle.
func (m *Machine) serves(p int, idle bool) bool {
	return m.first() != none && (m.owes() || idle || !m.ps[p].served)
}

// owes is whether one of those who wait is to be tried ahead of all others.
func (m *Machine) owes() bool {
	return m.owing && m.Phase() == api.Off
}

// serve tries the allocation of the first one that waits.
func (m *Machine) serve(p, victim int) api.Event {
	i := m.first()
	w := &m.waiting[i]
	m.states.Move(w.g, api.GRunnable)
	m.start(p, w.g)
	m.ps[p].served = true
	d, why := m.try(p, w.g)
	if why == fine {
		if w.room {
			m.starved--
		}
		m.waiting = slices.Delete(m.waiting, i, i+1)
		m.owing = false
		return m.commit(p, d)
	}
	m.leave(p, api.GAssists)
	if why == noRoom && !w.room {
		w.room = true
		m.starved++
	}
	if m.Phase() == api.Off {
		return m.starve(p, w)
	}
	return m.work(p, victim) // which brings it nearer
}

// starve begins the next cycle for one that finds no room in Off; or the run is over, if it waited for a whole one in which nothing was done, so that another would free nothing either.
func (m *Machine) starve(p int, w *waiter) api.Event {
	whole := w.since != untried && m.Cycle() > w.since
	if whole && len(m.commits) == m.began {
		m.status = api.OutOf
		return api.Event{Kind: api.EvEnd, G: w.g}
	}
	if w.since == untried {
		w.since = m.Cycle()
	}
	m.still = whole
	return m.beginMark(p, p)
}

// credited gives words that were scanned to the first one that waits for credit, or to all. There are none where all roots were stacks of the dead.
func (m *Machine) credited(words int) api.Event {
	for _, w := range m.waiting {
		if words > 0 && !w.room && !m.covers(w.g, w.words) {
			m.credit.Scan(w.g, words)
			return api.Event{Kind: api.EvWork, G: w.g}
		}
	}
	m.credit.Bank(words)
	return worked()
}
