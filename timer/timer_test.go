package timer_test

import (
	"math"
	"math/rand"
	"slices"
	"testing"

	"treadmill/api"
	"treadmill/timer"
)

// ends: times at the ends of int64 and about 0.
var ends = []int64{math.MinInt64, math.MinInt64 + 1, -1 << 40, -2, -1, 0, 1, 2, 1 << 40, math.MaxInt64 - 1, math.MaxInt64}

// pair is Timers and a list of them that is kept in order: each call on both is held against one another, and all that stands there behind it.
type pair struct {
	t *testing.T
	s *timer.Timers
	l []api.Timer
}

func both(t *testing.T) *pair {
	t.Helper()
	p := &pair{t: t, s: timer.New()}
	p.held()
	return p
}

func (p *pair) held() {
	p.t.Helper()
	if got := p.s.All(); !slices.Equal(got, p.l) {
		p.t.Fatalf("13.1: All: %v, not %v", got, p.l)
	}
	if got := p.s.Len(); got != len(p.l) {
		p.t.Fatalf("13.1: Len: %d, not %d", got, len(p.l))
	}
	when, some := p.s.Next()
	if some != (len(p.l) > 0) {
		p.t.Fatalf("13.1: Next: %v, of %v", some, p.l)
	}
	if some && when != p.l[0].When || !some && when != 0 {
		p.t.Fatalf("13.1: Next: %d, of %v", when, p.l)
	}
}

func (p *pair) add(when int64, g int) {
	p.t.Helper()
	p.s.Add(when, g)
	at := 0
	for at < len(p.l) && p.l[at].When <= when {
		at++
	}
	p.l = slices.Insert(slices.Clone(p.l), at, api.Timer{When: when, G: g})
	p.held()
}

func (p *pair) due(now int64) []int {
	p.t.Helper()
	var want []int
	for len(p.l) > 0 && p.l[0].When <= now {
		want = append(want, p.l[0].G)
		p.l = p.l[1:]
	}
	got := p.s.Due(now)
	if !slices.Equal(got, want) {
		p.t.Fatalf("13.1: Due(%d): %v, not %v", now, got, want)
	}
	p.held()
	return got
}

func (p *pair) del(g int) bool {
	p.t.Helper()
	at := slices.IndexFunc(p.l, func(x api.Timer) bool { return x.G == g })
	got := p.s.Del(g)
	if got != (at >= 0) {
		p.t.Fatalf("13.1: Del(%d): %v, of %v", g, got, p.l)
	}
	if at >= 0 {
		p.l = slices.Delete(slices.Clone(p.l), at, at+1)
	}
	p.held()
	return got
}

// 13.1: the document's example.
func TestExample(t *testing.T) {
	p := both(t)
	p.add(5, 1)
	p.add(3, 2)
	if got := p.due(4); !slices.Equal(got, []int{2}) {
		t.Errorf("13.1: Due(4): %v", got)
	}
}

// 13.1: Due ahead of, at and behind each When, below 0 and at the ends of int64.
func TestDue(t *testing.T) {
	for _, now := range append([]int64{4, 5, 6, -5, -6, -4}, ends...) {
		p := both(t)
		for g, when := range append([]int64{5, -5}, ends...) {
			p.add(when, g)
		}
		p.due(now)
		p.due(now)
	}
	for _, when := range ends {
		for _, now := range ends {
			p := both(t)
			p.add(when, 7)
			if got := p.due(now); (len(got) != 0) != (when <= now) {
				t.Errorf("13.1: Due(%d) of one that sleeps till %d: %v", now, when, got)
			}
		}
	}
	p := both(t)
	if got := p.due(math.MaxInt64); len(got) != 0 {
		t.Errorf("13.1: Due of nobody: %v", got)
	}
}

// 13.1: like ones in the order of Add, by hand, also behind Del and behind a Due that left some.
func TestLike(t *testing.T) {
	p := both(t)
	for _, g := range []int{4, 9, 2, 7, 1, 8} {
		p.add(10, g)
	}
	p.add(5, 3)
	p.add(5, 0)
	p.del(2)
	if got := p.due(5); !slices.Equal(got, []int{3, 0}) {
		t.Errorf("13.1: Due(5): %v", got)
	}
	p.add(10, 2)
	p.del(4)
	p.add(9, 6)
	p.add(10, 4)
	if got := p.due(10); !slices.Equal(got, []int{6, 9, 7, 1, 8, 2, 4}) {
		t.Errorf("13.1: Due(10): %v", got)
	}
	for n := range 40 {
		for i := range n {
			p.add(1, i)
		}
		for i := 0; i < n; i += 3 {
			p.del(i)
			p.add(1, i)
		}
		p.due(1)
	}
}

// 13.1: who sleeps already sleeps twice; Del takes the first one of that g in All's order, then the next one.
func TestDel(t *testing.T) {
	p := both(t)
	if p.del(0) || p.del(-1) {
		t.Error("13.1: Del of nobody")
	}
	for _, when := range []int64{8, 3, 8, 3, 5} {
		p.add(when, 1)
		p.add(when, 2)
	}
	for _, want := range [][]int64{{3, 5, 8, 8}, {5, 8, 8}, {8, 8}, {8}, {}} {
		if !p.del(1) {
			t.Fatal("13.1: Del(1): false")
		}
		var left []int64
		for _, x := range p.s.All() {
			if x.G == 1 {
				left = append(left, x.When)
			}
		}
		if !slices.Equal(left, want) {
			t.Errorf("13.1: behind Del(1): %v, not %v", left, want)
		}
	}
	if p.del(1) || p.del(3) {
		t.Error("13.1: Del of one that does not sleep")
	}
	if got := p.due(9); !slices.Equal(got, []int{2, 2, 2, 2, 2}) {
		t.Errorf("13.1: Due(9): %v", got)
	}
}

// 13.1: Del out of each place of heaps of each size, then Due one by one.
func TestDelAnywhere(t *testing.T) {
	for n := 1; n < 24; n++ {
		for place := range n {
			p := both(t)
			for i := range n {
				p.add(int64(i*7%n), i)
			}
			p.del(place)
			p.del(place)
			for now := range n {
				p.due(int64(now))
			}
		}
	}
}

// 13.1: any number may sleep.
func TestNumbers(t *testing.T) {
	p := both(t)
	for _, g := range []int{math.MinInt, -1, 0, 1024, 1 << 32, math.MaxInt, -1} {
		p.add(1, g)
		p.add(0, g)
	}
	p.del(-1)
	p.del(math.MaxInt)
	p.del(1 << 33)
	p.due(1)
}

// 13.1, 13.2: long rows of all calls, with many of one When and one g many times; nobody is told ahead of their time.
func TestRows(t *testing.T) {
	r := rand.New(rand.NewSource(13))
	for round := range 40 {
		p := both(t)
		span, now := 1+r.Intn(60), int64(r.Intn(40)-20)
		for range 600 {
			switch what := r.Intn(100); {
			case what < 55-round%20:
				p.add(now+int64(r.Intn(span)-span/4), r.Intn(1+round))
			case what < 75:
				now += int64(r.Intn(1 + span/4))
				p.due(now)
			case what < 80:
				p.due(now - int64(r.Intn(10)))
			default:
				p.del(r.Intn(2 + round))
			}
		}
		p.due(math.MaxInt64)
	}
}

// 13.2: nobody is told ahead of their time, and none later than at the first Due from then on.
func TestNobodyAhead(t *testing.T) {
	r := rand.New(rand.NewSource(132))
	s := timer.New()
	var when []int64 // by g
	told := 0
	for now := int64(-50); now < 4000; now += int64(r.Intn(4)) {
		for range r.Intn(5) {
			when = append(when, now+1+int64(r.Intn(50)))
			s.Add(when[len(when)-1], len(when)-1)
		}
		for _, g := range s.Due(now) {
			if when[g] > now {
				t.Fatalf("13.2: %d is told at %d, not at %d", g, now, when[g])
			}
			told++
		}
		if next, some := s.Next(); some && next <= now {
			t.Fatalf("13.1: Next at %d: %d", now, next)
		}
	}
	if told+s.Len() != len(when) {
		t.Errorf("13.2: %d were told of %d, and %d sleep", told, len(when), s.Len())
	}
}

// 13.1: what is told is the caller's own.
func TestListsAreNew(t *testing.T) {
	p := both(t)
	for g := range 9 {
		p.add(int64(9-g), g)
	}
	all := p.s.All()
	clear(all)
	p.held()
	all = p.s.All()
	all = append(all[:3], api.Timer{When: 77, G: 77})
	p.held()
	got := p.due(3)
	got = append(got, 5, 5, 5)
	clear(got)
	p.held()
	p.add(4, 4)
	if all[3].G != 77 {
		t.Error("13.1: what was told has changed")
	}
}

// 13.1: a nil Timers has nobody.
func TestNil(t *testing.T) {
	var none *timer.Timers
	none.Add(1, 1)
	if when, some := none.Next(); when != 0 || some {
		t.Errorf("13.1: Next of none: %d, %v", when, some)
	}
	if len(none.Due(math.MaxInt64)) != 0 || none.Del(1) || none.Len() != 0 || len(none.All()) != 0 {
		t.Error("13.1: of none: somebody")
	}
}

// 13.1: Timers that New did not make do not panic.
func TestNotNew(t *testing.T) {
	var s timer.Timers
	s.Del(1)
	s.Add(1, 1)
	s.Next()
	s.All()
	s.Due(1)
	s.Len()
}
