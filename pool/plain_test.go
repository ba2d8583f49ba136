package pool_test

import (
	"math"
	"slices"
	"testing"

	"treadmill/api"
	"treadmill/pool"
)

// far: numbers that are no P.
var far = []int{-1, -2, -64, 64, 65, 1 << 20, 1 << 32, 1<<32 + 1, math.MaxInt32, math.MinInt32, math.MaxInt, math.MinInt}

// mine is a P's two buffers as lists.
type mine struct {
	one, two []int
	flushed  bool
}

// pair is a Pool and its buffers one by one, as 18.1 tells it: each call on both is held against one another, and all that is seen behind it.
type pair struct {
	t     *testing.T
	w     *pool.Pool
	ps    []mine
	full  [][]int
	empty int
}

func both(t *testing.T, ps int) *pair {
	t.Helper()
	w, err := pool.New(ps)
	if w == nil || err != api.OK {
		t.Fatalf("18.1: New(%d): %d", ps, err)
	}
	p := &pair{t: t, w: w, ps: make([]mine, ps)}
	p.held()
	return p
}

func (p *pair) held() {
	p.t.Helper()
	n := 0
	for i, x := range p.ps {
		local := len(x.one) + len(x.two)
		if got := p.w.Local(i); got != local {
			p.t.Fatalf("18.1: Local(%d): %d, not %d", i, got, local)
		}
		if got := p.w.Flushed(i); got != x.flushed {
			p.t.Fatalf("18.1: Flushed(%d): %v", i, got)
		}
		n += local
	}
	for _, b := range p.full {
		n += len(b)
	}
	if got := p.w.Len(); got != n {
		p.t.Fatalf("18.1: Len: %d, not %d", got, n)
	}
	if full, empty := p.w.Lists(); full != len(p.full) || empty != p.empty {
		p.t.Fatalf("18.1: Lists: %d, %d, not %d, %d", full, empty, len(p.full), p.empty)
	}
}

// is is whether there is such a P.
func (p *pair) is(i int) bool {
	return i >= 0 && i < len(p.ps)
}

// common puts a P's list to the full ones, of which an empty one takes the place.
func (p *pair) common(i int, l []int) []int {
	p.full = append(p.full, l)
	p.empty = max(p.empty-1, 0)
	p.ps[i].flushed = true
	return nil
}

func (p *pair) put(i, v int) int {
	p.t.Helper()
	want := api.ErrArg
	if p.is(i) && v != 0 {
		want = api.OK
		x := &p.ps[i]
		if len(x.one) == 32 {
			x.one, x.two = x.two, x.one
			if len(x.one) == 32 {
				x.one = p.common(i, x.one)
			}
		}
		x.one = append(slices.Clone(x.one), v)
	}
	got := p.w.Put(i, v)
	if got != want {
		p.t.Fatalf("18.1: Put(%d, %d): %d, not %d", i, v, got, want)
	}
	p.held()
	return got
}

func (p *pair) get(i int) (int, bool) {
	p.t.Helper()
	want, some := 0, false
	if p.is(i) {
		x := &p.ps[i]
		if len(x.one) == 0 {
			x.one, x.two = x.two, x.one
			if last := len(p.full) - 1; len(x.one) == 0 && last >= 0 {
				x.one, p.full = p.full[last], p.full[:last]
				p.empty++
			}
		}
		if last := len(x.one) - 1; last >= 0 {
			want, some = x.one[last], true
			x.one = x.one[:last]
		}
	}
	v, ok := p.w.Get(i)
	if v != want || ok != some {
		p.t.Fatalf("18.1: Get(%d): %d, %v, not %d, %v", i, v, ok, want, some)
	}
	p.held()
	return v, ok
}

func (p *pair) give(i int) bool {
	p.t.Helper()
	want := false
	if p.is(i) {
		x := &p.ps[i]
		if len(x.two) > 0 {
			x.two = p.common(i, x.two)
			want = true
		} else if n := len(x.one); n > 4 {
			p.full = append(p.full, slices.Clone(x.one[n-n/2:]))
			x.one = x.one[:n-n/2]
			x.flushed, want = true, true
		}
	}
	got := p.w.Give(i)
	if got != want {
		p.t.Fatalf("18.1: Give(%d): %v", i, got)
	}
	p.held()
	return got
}

func (p *pair) flush(i int) {
	p.t.Helper()
	if p.is(i) {
		x := &p.ps[i]
		if len(x.one) > 0 {
			x.one = p.common(i, x.one)
		}
		if len(x.two) > 0 {
			x.two = p.common(i, x.two)
		}
	}
	p.w.Flush(i)
	p.held()
}

func (p *pair) reset(i int) {
	p.t.Helper()
	if p.is(i) {
		p.ps[i].flushed = false
	}
	p.w.Reset(i)
	p.held()
}

// puts puts n numbers, from v on.
func (p *pair) puts(i, v, n int) {
	p.t.Helper()
	for k := range n {
		p.put(i, v+k)
	}
}

// gets takes numbers out, and holds them against those by hand.
func (p *pair) gets(i int, want ...int) {
	p.t.Helper()
	for _, v := range want {
		if got, some := p.get(i); got != v || !some {
			p.t.Fatalf("18.1: Get(%d): %d, %v, not %d", i, got, some, v)
		}
	}
}

// drain takes all out, by each P in turn.
func (p *pair) drain() {
	p.t.Helper()
	for i := range p.ps {
		for some := true; some; {
			_, some = p.get(i)
		}
	}
	if p.w.Len() != 0 {
		p.t.Fatalf("18.2: %d are left", p.w.Len())
	}
}
