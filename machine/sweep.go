package machine

import (
	"treadmill/api"
	"treadmill/sweep"
)

// mostSpans is how many spans are swept at once at most.
const mostSpans = 8

// pace is that of sweeping: how many spans there were to be swept as it began, and how many words were allocated then, are now, and may be by its end.
type pace struct {
	spans            int
	began, now, goal int64
}

// beginSweep ends the stop between marking and sweeping. What is marked lives, and what comes beside it till the next cycle sets the pace.
func (m *Machine) beginSweep(_, _ int) api.Event {
	m.phases.Sweep()
	m.heap.Begin()
	m.pace = pace{
		spans: m.heap.Unswept(),
		began: m.marked,
		now:   m.marked,
		goal:  m.aim(int(m.marked)).Trigger,
	}
	return m.turned()
}

// isBehind is whether spans are to be swept ahead of allocating so many words.
func (m *Machine) isBehind(words int) bool {
	s := m.pace
	return sweep.Need(s.spans, s.spans-m.heap.Unswept(), s.began, s.now+int64(words), s.goal) > 0
}

// sweep sweeps some spans, or ends the cycle.
func (m *Machine) sweep() api.Event {
	if m.heap.Unswept() == 0 {
		return m.endCycle()
	}
	for range min(m.pace.spans/parts+1, mostSpans) {
		gone, _ := m.heap.Sweep()
		m.free(gone)
	}
	return worked()
}

// endCycle ends a cycle. Spans without objects are dropped, so that whoever waits finds all the room that there is; no P has one, for what it took since sweeping began has an object.
func (m *Machine) endCycle() api.Event {
	m.phases.End()
	m.heap.Drop()
	m.goal = m.aim(m.Live())
	m.owing = len(m.waiting) > 0
	m.still = false
	m.recount()
	return m.turned()
}
