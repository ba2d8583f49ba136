package sched_test

import (
	"slices"
	"testing"

	"treadmill/api"
	"treadmill/sched"
)

// local is a P's goroutines: who is next, in a list of one or none, and the row.
type local struct{ next, row []int }

func (l *local) all() []int {
	return slices.Concat(l.next, l.row)
}

// plain is goroutines in lists, as 27.1 tells them (with 10.1 and 11.1).
type plain struct {
	ps     []local
	common []int
}

// cut takes the first n out of a list.
func cut(l *[]int, n int) []int {
	first := slices.Clone((*l)[:n])
	*l = slices.Clone((*l)[n:])
	return first
}

func (s *plain) has(p int) bool {
	return p >= 0 && p < len(s.ps)
}

func (s *plain) ready(p, g int, next bool) int {
	if !s.has(p) {
		return api.ErrArg
	}
	l := &s.ps[p]
	if next {
		was := l.next
		l.next = []int{g}
		if len(was) == 0 {
			return api.OK
		}
		g = was[0]
	}
	if len(l.row) < 256 {
		l.row = append(slices.Clone(l.row), g)
		return api.OK
	}
	s.common = slices.Concat(s.common, cut(&l.row, 128), []int{g})
	return api.OK
}

func (s *plain) pick(p, tick, victim int) (int, bool) {
	if !s.has(p) {
		return 0, false
	}
	if tick%61 == 0 && tick != 0 && len(s.common) > 0 {
		return cut(&s.common, 1)[0], true
	}
	l := &s.ps[p]
	if len(l.next) > 0 {
		return cut(&l.next, 1)[0], true
	}
	if len(l.row) > 0 {
		return cut(&l.row, 1)[0], true
	}
	if n := len(s.common); n > 0 {
		l.row = cut(&s.common, min(n/len(s.ps)+1, 64, n))
		return cut(&l.row, 1)[0], true
	}
	if !s.has(victim) || victim == p {
		return 0, false
	}
	from := &s.ps[victim]
	if n := len(from.row); n > 0 {
		l.row = cut(&from.row, n-n/2)
	} else {
		l.row = cut(&from.next, len(from.next))
	}
	if len(l.row) == 0 {
		return 0, false
	}
	return cut(&l.row, 1)[0], true
}

func (s *plain) drop(p int) int {
	if !s.has(p) {
		return 0
	}
	all := s.ps[p].all()
	s.ps[p] = local{}
	s.common = slices.Concat(s.common, all)
	return len(all)
}

func (s *plain) where(g int) (int, bool) {
	for p := range s.ps {
		if slices.Contains(s.ps[p].all(), g) {
			return p, true
		}
	}
	if slices.Contains(s.common, g) {
		return -1, true
	}
	return 0, false
}

// pair is a Sched and its lists: each call on both is held against one another, and who stands where behind it.
type pair struct {
	t *testing.T
	s *sched.Sched
	l *plain
}

func both(t *testing.T, ps int) *pair {
	t.Helper()
	s, err := sched.New(ps)
	if err != api.OK || s == nil {
		t.Fatalf("27.1: New(%d): %d", ps, err)
	}
	p := &pair{t, s, &plain{ps: make([]local, ps)}}
	p.held()
	return p
}

func (p *pair) held() {
	p.t.Helper()
	n := len(p.l.common)
	for i := range p.l.ps {
		want := p.l.ps[i].all()
		n += len(want)
		if got := p.s.Local(i); !slices.Equal(got, want) {
			p.t.Fatalf("27.1: Local(%d): %v, not %v", i, got, want)
		}
	}
	if got := p.s.Common(); !slices.Equal(got, p.l.common) {
		p.t.Fatalf("27.1: Common: %v, not %v", got, p.l.common)
	}
	if got := p.s.Len(); got != n {
		p.t.Fatalf("27.1: Len: %d, not %d", got, n)
	}
}

func (p *pair) ready(i, g int, next bool) int {
	p.t.Helper()
	want := p.l.ready(i, g, next)
	got := p.s.Ready(i, g, next)
	if got != want {
		p.t.Fatalf("27.1: Ready(%d, %d, %v): %d, not %d", i, g, next, got, want)
	}
	p.held()
	return got
}

// fill puts n goroutines from g on into P i's row.
func (p *pair) fill(i, g, n int) {
	p.t.Helper()
	for k := range n {
		p.ready(i, g+k, false)
	}
}

func (p *pair) global(gs ...int) {
	p.t.Helper()
	p.l.common = slices.Concat(p.l.common, gs)
	for _, g := range gs {
		p.s.Global(g)
	}
	p.held()
}

func (p *pair) pick(i, tick, victim int) (int, bool) {
	p.t.Helper()
	want, some := p.l.pick(i, tick, victim)
	got, ok := p.s.Pick(i, tick, victim)
	if got != want || ok != some {
		p.t.Fatalf("27.1: Pick(%d, %d, %d): %d, %v, not %d, %v", i, tick, victim, got, ok, want, some)
	}
	p.held()
	return got, ok
}

// picks is a Pick that is to tell g.
func (p *pair) picks(i, tick, victim, g int) {
	p.t.Helper()
	if got, ok := p.pick(i, tick, victim); got != g || !ok {
		p.t.Errorf("27.1: Pick(%d, %d, %d): %d, %v, not %d", i, tick, victim, got, ok, g)
	}
}

// none is a Pick that is to tell nobody.
func (p *pair) none(i, tick, victim int) {
	p.t.Helper()
	if got, ok := p.pick(i, tick, victim); got != 0 || ok {
		p.t.Errorf("27.1: Pick(%d, %d, %d): %d, %v", i, tick, victim, got, ok)
	}
}

func (p *pair) drop(i int) int {
	p.t.Helper()
	want := p.l.drop(i)
	got := p.s.Drop(i)
	if got != want {
		p.t.Fatalf("27.1: Drop(%d): %d, not %d", i, got, want)
	}
	p.held()
	return got
}

func (p *pair) where(g int) (int, bool) {
	p.t.Helper()
	want, some := p.l.where(g)
	got, ok := p.s.Where(g)
	if got != want || ok != some {
		p.t.Fatalf("27.1: Where(%d): %d, %v, not %d, %v", g, got, ok, want, some)
	}
	return got, ok
}
