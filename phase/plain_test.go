package phase_test

import (
	"testing"

	"treadmill/api"
	"treadmill/phase"
)

// plain is a collector's phase by its name, and who said that they are empty, as 25.1 tells it.
type plain struct {
	ps              int
	phase           string
	cycle, restarts int
	said            map[int]bool
}

func (l *plain) quiet() bool {
	return l.phase == "mark" && len(l.said) == l.ps
}

// turn comes from one phase to another, or not.
func (l *plain) turn(from, to string) int {
	if l.phase != from {
		return api.ErrState
	}
	l.phase = to
	return api.OK
}

func (l *plain) begin() int {
	err := l.turn("off", "mark")
	if err == api.OK {
		l.cycle++
		l.restarts = 0
		l.said = map[int]bool{}
	}
	return err
}

func (l *plain) say(p int, empty, flushed bool) int {
	if p < 0 || p >= l.ps {
		return api.ErrArg
	}
	if l.phase != "mark" {
		return api.ErrState
	}
	if empty && !flushed {
		l.said[p] = true
		return api.OK
	}
	if len(l.said) > 0 {
		l.restarts++
	}
	l.said = map[int]bool{}
	return api.OK
}

func (l *plain) term() int {
	if !l.quiet() {
		return api.ErrState
	}
	return l.turn("mark", "term")
}

// pair is Phases and their plain ones: each call on both is held against one another, and all that is asked behind it.
type pair struct {
	t *testing.T
	f *phase.Phases
	l *plain
}

func both(t *testing.T, ps int) *pair {
	t.Helper()
	f, err := phase.New(ps)
	if err != api.OK || f == nil {
		t.Fatalf("25.1: New(%d): %d", ps, err)
	}
	p := &pair{t, f, &plain{ps: ps, phase: "off"}}
	p.held()
	return p
}

func (p *pair) held() {
	p.t.Helper()
	is := map[string]int{"off": api.Off, "mark": api.Mark, "term": api.Term, "sweep": api.Sweep}[p.l.phase]
	if p.f.Phase() != is || p.f.Cycle() != p.l.cycle || p.f.Restarts() != p.l.restarts || p.f.Quiet() != p.l.quiet() {
		p.t.Fatalf("25.1: phase %d, cycle %d, %d restarts, quiet %v; not %s, %d, %d, %v", p.f.Phase(), p.f.Cycle(), p.f.Restarts(), p.f.Quiet(), p.l.phase, p.l.cycle, p.l.restarts, p.l.quiet())
	}
}

func (p *pair) same(call string, got, want int) int {
	p.t.Helper()
	if got != want {
		p.t.Fatalf("25.1: %s in %s: %d, not %d", call, p.l.phase, got, want)
	}
	p.held()
	return got
}

func (p *pair) begin() int {
	p.t.Helper()
	return p.same("Begin", p.f.Begin(), p.l.begin())
}

func (p *pair) say(i int, empty, flushed bool) int {
	p.t.Helper()
	return p.same("Say", p.f.Say(i, empty, flushed), p.l.say(i, empty, flushed))
}

func (p *pair) term() int {
	p.t.Helper()
	return p.same("Term", p.f.Term(), p.l.term())
}

func (p *pair) sweep() int {
	p.t.Helper()
	return p.same("Sweep", p.f.Sweep(), p.l.turn("term", "sweep"))
}

func (p *pair) end() int {
	p.t.Helper()
	return p.same("End", p.f.End(), p.l.turn("sweep", "off"))
}

// hush has all Ps say that they are empty.
func (p *pair) hush() {
	p.t.Helper()
	for i := range p.l.ps {
		p.say(i, true, false)
	}
}

// to is one of so many Ps that came on to a phase of its first cycle.
func to(t *testing.T, ps, phase int) *pair {
	t.Helper()
	p := both(t, ps)
	for p.f.Phase() != phase {
		switch p.f.Phase() {
		case api.Off:
			p.begin()
		case api.Mark:
			p.hush()
			p.term()
		case api.Term:
			p.sweep()
		}
	}
	return p
}
