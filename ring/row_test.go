package ring_test

import (
	"slices"
	"testing"

	"treadmill/ring"
)

// row is a Ring as 10.1 tells it: who is next (nobody or one), then the row.
type row struct{ next, all []int }

func (l *row) put(g int, next bool) []int {
	if next {
		was := l.next
		l.next = []int{g}
		if len(was) == 0 {
			return nil
		}
		g = was[0]
	}
	if len(l.all) < 256 {
		l.all = append(l.all, g)
		return nil
	}
	out := append(slices.Clone(l.all[:128]), g)
	l.all = l.all[128:]
	return out
}

func (l *row) get() (int, bool) {
	from := &l.all
	if len(l.next) > 0 {
		from = &l.next
	}
	if len(*from) == 0 {
		return 0, false
	}
	g := (*from)[0]
	*from = (*from)[1:]
	return g, true
}

func (l *row) steal(o *row) int {
	if l == o {
		return 0
	}
	from, n := &o.all, len(o.all)-len(o.all)/2
	if n == 0 {
		from, n = &o.next, len(o.next)
	}
	n = min(n, 256-len(l.all))
	l.all = append(l.all, (*from)[:n]...)
	*from = (*from)[n:]
	return n
}

func (l *row) list() []int {
	return append(slices.Clone(l.next), l.all...)
}

func (l *row) del(g int) bool {
	for _, from := range []*[]int{&l.next, &l.all} {
		if i := slices.Index(*from, g); i >= 0 {
			*from = slices.Delete(slices.Clone(*from), i, i+1)
			return true
		}
	}
	return false
}

// pair is a Ring and its row: each call on both is held against one another, and who stands there behind it.
type pair struct {
	t *testing.T
	r *ring.Ring
	l *row
}

func both(t *testing.T) *pair {
	t.Helper()
	p := &pair{t, ring.New(), &row{}}
	p.held()
	return p
}

func (p *pair) held() {
	p.t.Helper()
	want := p.l.list()
	if got := p.r.All(); !slices.Equal(got, want) {
		p.t.Fatalf("10.1: All: %v, not %v", got, want)
	}
	if got := p.r.Len(); got != len(want) {
		p.t.Fatalf("10.1: Len: %d, not %d", got, len(want))
	}
}

func (p *pair) put(g int, next bool) []int {
	p.t.Helper()
	got, want := p.r.Put(g, next), p.l.put(g, next)
	if !slices.Equal(got, want) {
		p.t.Fatalf("10.1: Put(%d, %v): %v, not %v", g, next, got, want)
	}
	p.held()
	return got
}

func (p *pair) get() (int, bool) {
	p.t.Helper()
	got, ok := p.r.Get()
	if want, is := p.l.get(); got != want || ok != is {
		p.t.Fatalf("10.1: Get: %d, %v, not %d, %v", got, ok, want, is)
	}
	p.held()
	return got, ok
}

func (p *pair) steal(o *pair) int {
	p.t.Helper()
	got, want := p.r.Steal(o.r), p.l.steal(o.l)
	if got != want {
		p.t.Fatalf("10.1: Steal: %d, not %d", got, want)
	}
	p.held()
	o.held()
	return got
}

func (p *pair) del(g int) bool {
	p.t.Helper()
	got := p.r.Del(g)
	if want := p.l.del(g); got != want {
		p.t.Fatalf("10.1: Del(%d): %v", g, got)
	}
	p.held()
	return got
}

// rowOf is a Ring whose row has n, from g on, begun at some place of its array; with one that is next, or not.
func rowOf(t *testing.T, g, n, begun int, next bool) *pair {
	t.Helper()
	p := both(t)
	for range begun {
		p.r.Put(0, false)
		p.r.Get()
	}
	for i := range n {
		p.put(g+i, false)
	}
	if next {
		p.put(g+n, true)
	}
	return p
}
