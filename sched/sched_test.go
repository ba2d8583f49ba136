package sched_test

import (
	"math"
	"math/rand"
	"slices"
	"testing"

	"treadmill/api"
	"treadmill/sched"
)

// far are numbers of no P, and of no goroutine that the tests name.
var far = []int{math.MinInt, -1 << 32, -2, -1, 64, 65, 1 << 32, math.MaxInt}

// 27.1: the document's example.
func TestExample(t *testing.T) {
	p := both(t, 2)
	p.ready(0, 5, true)
	p.picks(1, 1, 0, 5)
}

// 27.1: New at and beside its bounds.
func TestNew(t *testing.T) {
	for _, ps := range []int{math.MinInt, -64, -1, 0, 65, 66, 1 << 32, 1<<32 + 1, math.MaxInt} {
		if s, err := sched.New(ps); s != nil || err != api.ErrArg {
			t.Errorf("27.1: New(%d): %v, %d", ps, s, err)
		}
	}
	for _, ps := range []int{1, 2, 63, 64} {
		p := both(t, ps)
		for i := range ps {
			p.none(i, 0, (i+1)%ps)
		}
		for i := range ps {
			p.ready(i, 100+i, false)
		}
		if err := p.ready(ps, 1, false); err != api.ErrArg || p.s.Len() != ps {
			t.Errorf("27.1: Ready(%d) of %d Ps: %d", ps, ps, err)
		}
	}
}

// 27.1: Ready, next and not, in the P's own ring.
func TestReady(t *testing.T) {
	p := both(t, 3)
	p.ready(1, 10, false)
	p.ready(1, 11, true)
	p.ready(1, 12, true)
	p.ready(1, 13, false)
	p.ready(2, 20, false)
	if got := p.s.Local(1); !slices.Equal(got, []int{12, 10, 11, 13}) || len(p.s.Local(0)) != 0 {
		t.Errorf("27.1: Local: %v", got)
	}
	for _, g := range []int{12, 10, 11, 13} {
		p.picks(1, 1, 0, g)
	}
	p.none(1, 1, 0)
	p.picks(2, 1, 0, 20)
}

// 27.1: of no P: ErrArg, nobody, nothing; and nothing is turned.
func TestNoP(t *testing.T) {
	p := both(t, 2)
	p.fill(0, 1, 5)
	p.fill(1, 10, 5)
	p.global(20, 21, 22)
	for _, i := range append([]int{2, 3, 63}, far...) {
		for _, next := range []bool{false, true} {
			if err := p.ready(i, 7, next); err != api.ErrArg {
				t.Errorf("27.1: Ready of P %d: %d", i, err)
			}
		}
		for _, tick := range []int{0, 1, 61} {
			for _, victim := range []int{0, 1, i} {
				p.none(i, tick, victim)
			}
		}
		if n := p.drop(i); n != 0 || len(p.s.Local(i)) != 0 {
			t.Errorf("27.1: Drop of P %d: %d", i, n)
		}
	}
}

// 27.1: Ready of a full ring: what it tells goes behind the common queue.
func TestFull(t *testing.T) {
	for _, next := range []bool{false, true} {
		for _, has := range []bool{false, true} {
			p := both(t, 2)
			p.global(7, 8)
			p.fill(1, 1000, 256)
			if has {
				p.ready(1, 5, true)
			}
			if got := p.s.Common(); !slices.Equal(got, []int{7, 8}) {
				t.Errorf("27.1: Common ahead of a full ring: %v", got)
			}
			p.ready(1, 6, next)
			last, told := 6, 129
			if next {
				last = 5
			}
			if next && !has {
				told = 0
			}
			got := p.s.Common()
			if len(got) != 2+told || told > 0 && (got[2] != 1000 || got[129] != 1127 || got[130] != last) {
				t.Errorf("27.1: behind Ready(%v) of a full ring, next %v: %v", next, has, got)
			}
			p.fill(1, 2000, 300)
			p.fill(0, 3000, 10)
		}
	}
}

// 27.1: Pick at ticks that are multiples of 61, but 0: the common queue's first one, if there is one.
func TestTicks(t *testing.T) {
	for _, x := range []struct {
		tick int
		turn bool
	}{{0, false}, {1, false}, {60, false}, {61, true}, {62, false}, {121, false}, {122, true}, {123, false}, {183, true}, {610, true}, {-1, false}, {-60, false}, {-61, true}, {-122, true}, {math.MaxInt, math.MaxInt%61 == 0}, {math.MinInt, math.MinInt%61 == 0}, {61 << 50, true}, {61<<50 + 1, false}} {
		for _, next := range []bool{false, true} {
			p := both(t, 2)
			p.fill(0, 1, 2)
			p.ready(0, 3, next)
			p.global(20, 21, 22)
			first := 1
			if next {
				first = 3
			}
			if x.turn {
				p.picks(0, x.tick, 1, 20)
				if got := p.s.Common(); !slices.Equal(got, []int{21, 22}) || len(p.s.Local(0)) != 3 {
					t.Errorf("27.1: behind Pick at tick %d: %v", x.tick, got)
				}
			} else {
				p.picks(0, x.tick, 1, first)
			}
			p = both(t, 2)
			p.ready(0, 1, next)
			p.picks(0, x.tick, 1, 1) // nobody in common
			p.none(0, x.tick, 1)
			p.fill(1, 30, 4)
			p.picks(0, x.tick, 1, 30)
			p.global(20, 21, 22)
			if x.turn {
				p.picks(0, x.tick, 1, 20)
			} else {
				p.picks(0, x.tick, 1, 31)
			}
			p = both(t, 2)
			p.global(20, 21, 22, 23)
			p.picks(0, x.tick, 1, 20) // its own ring is empty
			along := []int{21, 22}
			if x.turn {
				along = nil
			}
			if got := p.s.Local(0); !slices.Equal(got, along) {
				t.Errorf("27.1: with Pick at tick %d %v come along", x.tick, got)
			}
		}
	}
}

// 27.1: the places in turn: its own ring, the common queue, the victim.
func TestPlaces(t *testing.T) {
	p := both(t, 3)
	p.fill(0, 1, 2)
	p.global(20, 21)
	p.fill(1, 30, 3)
	p.fill(2, 40, 3)
	for _, g := range []int{1, 2, 20, 21, 40, 41} {
		p.picks(0, 1, 2, g)
	}
	p.picks(0, 1, 1, 30)
	p.picks(0, 1, 1, 31)
	p.picks(0, 1, 1, 32)
	p.none(0, 1, 1)
	p.picks(0, 1, 2, 42)
	p.none(0, 1, 2)
	if p.s.Len() != 0 {
		t.Errorf("27.1: Len: %d", p.s.Len())
	}
}

// 27.1: out of the common queue a P takes its part and one more, at most 64: the first one runs, the others come along.
func TestCommon(t *testing.T) {
	for _, ps := range []int{1, 2, 3, 4, 64} {
		for _, n := range []int{0, 1, 2, 3, 4, 5, 62, 63, 64, 65, 66, 124, 125, 126, 127, 128, 129, 130, 200, 256, 300} {
			p := both(t, ps)
			var gs []int
			for g := range n {
				gs = append(gs, 100+g)
			}
			p.global(gs...)
			if n == 0 {
				p.none(ps-1, 7, 0)
				continue
			}
			took := min(n/ps+1, 64, n)
			p.picks(ps-1, 7, 0, 100)
			if got := p.s.Local(ps - 1); !slices.Equal(got, gs[1:took]) || len(p.s.Common()) != n-took {
				t.Errorf("27.1: of %d in common and %d Ps %v come along", n, ps, got)
			}
			p.pick(0, 8, ps-1)
		}
	}
}

// 27.1: of a victim the greater half of its row is taken, or who is next, if its row is empty.
func TestVictim(t *testing.T) {
	for _, n := range []int{0, 1, 2, 3, 4, 5, 10, 255, 256} {
		for _, next := range []bool{false, true} {
			p := both(t, 3)
			p.fill(1, 100, n)
			if next {
				p.ready(1, 50, true)
			}
			switch {
			case n > 0:
				p.picks(2, 1, 1, 100)
			case next:
				p.picks(2, 1, 1, 50)
			default:
				p.none(2, 1, 1)
			}
			if got, want := len(p.s.Local(2)), max(n-n/2-1, 0); got != want {
				t.Errorf("27.1: of %d stolen: %d are left", n, got)
			}
			if got := p.s.Local(1); n > 0 && next && (len(got) != n/2+1 || got[0] != 50) {
				t.Errorf("27.1: of %d stolen: %v stay", n, got)
			}
		}
	}
}

// 27.1: a P that is its own victim, and victims that are no Ps: nobody.
func TestNoVictim(t *testing.T) {
	p := both(t, 2)
	p.fill(1, 10, 4)
	for _, victim := range append([]int{0, 2, 3}, far...) {
		p.none(0, 1, victim)
		p.none(0, 61, victim)
	}
	p.picks(1, 1, 1, 10)
	p.picks(1, 1, 99, 11)
	p.picks(0, 1, 1, 12)
	p.picks(1, 1, 1, 13)
	p.none(1, 1, 1)
	one := both(t, 1)
	one.none(0, 1, 0)
	one.ready(0, 0, true)
	one.picks(0, 1, 0, 0)
}

// 27.1: Drop of a ring, with a next and without: in All's order, behind the common queue.
func TestDrop(t *testing.T) {
	for _, next := range []bool{false, true} {
		for _, n := range []int{0, 1, 3, 256} {
			p := both(t, 2)
			p.global(5, 6)
			p.fill(0, 200, 2)
			p.fill(1, 100, n)
			want := []int{5, 6}
			if next {
				p.ready(1, 50, true)
				want = append(want, 50)
			}
			for g := range n {
				want = append(want, 100+g)
			}
			if got := p.drop(1); got != len(want)-2 {
				t.Errorf("27.1: Drop: %d", got)
			}
			if got := p.s.Common(); !slices.Equal(got, want) || len(p.s.Local(1)) != 0 || len(p.s.Local(0)) != 2 {
				t.Errorf("27.1: behind Drop: %v", got)
			}
			if got := p.drop(1); got != 0 {
				t.Errorf("27.1: Drop of an empty ring: %d", got)
			}
			p.ready(1, 60, false)
			p.picks(1, 1, 0, 60)
		}
	}
}

// 27.1: Where: the least P, else -1 in common, else nowhere; who was picked is nowhere.
func TestWhere(t *testing.T) {
	p := both(t, 3)
	held := func(g, i int, some bool) {
		t.Helper()
		if got, ok := p.where(g); got != i || ok != some {
			t.Errorf("27.1: Where(%d): %d, %v", g, got, ok)
		}
	}
	held(0, 0, false)
	p.ready(2, 5, false)
	p.ready(2, 6, true)
	p.ready(0, 8, true)
	p.global(7, 0)
	held(5, 2, true)
	held(6, 2, true)
	held(8, 0, true)
	held(7, -1, true)
	held(0, -1, true)
	held(9, 0, false)
	p.global(5)
	held(5, 2, true)
	p.ready(1, 5, false)
	held(5, 1, true)
	p.ready(0, 5, false)
	held(5, 0, true)
	p.picks(2, 1, 0, 6)
	held(6, 0, false)
	p.drop(0)
	p.drop(1)
	p.picks(2, 1, 0, 5)
	held(5, -1, true)
	for _, g := range far {
		held(g, 0, false)
	}
}

// 27.1: any number is a goroutine, 0 and those below it, too; one may stand there twice.
func TestNumbers(t *testing.T) {
	p := both(t, 2)
	for i, g := range []int{0, 0, -1, math.MaxInt, math.MinInt, -1} {
		p.ready(i%2, g, i%3 == 0)
		p.global(g)
		p.where(g)
	}
	for tick := range 14 {
		p.pick(tick%2, tick*61, 1)
	}
}

// 27.1: long rows of all calls, against the lists.
func TestRows(t *testing.T) {
	r := rand.New(rand.NewSource(27))
	for round := range 120 {
		ps := 1 + round%6
		p := both(t, ps)
		full := 1 + r.Intn(60)
		for range 300 {
			i, victim := r.Intn(ps+2)-1, r.Intn(ps+2)-1
			switch what := r.Intn(100); {
			case what < 20:
				p.ready(i, r.Intn(50), r.Intn(2) == 0)
			case what < 30:
				p.fill(i, r.Intn(1000), r.Intn(full))
			case what < 37:
				p.global(r.Intn(50), r.Intn(50))
			case what < 93:
				p.pick(i, r.Intn(130)-5, victim)
			case what < 96:
				p.drop(i)
			default:
				p.where(r.Intn(60) - 3)
			}
		}
	}
}

// 27.2, T5: each stands in one place till it is picked, and nobody is lost.
func TestOnePlace(t *testing.T) {
	r := rand.New(rand.NewSource(272))
	for range 15 {
		ps := 1 + r.Intn(5)
		s, _ := sched.New(ps)
		stands := map[int]bool{}
		many := 500 + r.Intn(1000)
		for range 4000 {
			g, i := r.Intn(many), r.Intn(ps)
			switch what := r.Intn(100); {
			case what < 50:
				if !stands[g] {
					stands[g] = true
					if r.Intn(5) > 0 {
						s.Ready(i, g, r.Intn(2) == 0)
					} else {
						s.Global(g)
					}
				}
			case what < 98:
				if g, some := s.Pick(i, r.Intn(200), r.Intn(ps)); some {
					if !stands[g] {
						t.Fatalf("27.2: %d is picked, and did not stand there", g)
					}
					delete(stands, g)
				}
			default:
				s.Drop(i)
			}
			all := s.Common()
			for i := range ps {
				all = append(all, s.Local(i)...)
			}
			if len(all) != len(stands) || s.Len() != len(stands) {
				t.Fatalf("27.2: %d stand there, not %d", len(all), len(stands))
			}
			for _, g := range all {
				if !stands[g] {
					t.Fatalf("27.2: %d stands there, and was picked", g)
				}
			}
			slices.Sort(all)
			if len(slices.Compact(all)) != len(stands) {
				t.Fatal("27.2: one stands there twice")
			}
		}
	}
}

// T4: who stands in common is picked, though no ring is ever empty; and who stands in a ring, though others come always.
func TestGoesOn(t *testing.T) {
	for _, ps := range []int{1, 3} {
		s, _ := sched.New(ps)
		for g := range 100 {
			s.Ready(g%ps, g, false)
		}
		s.Global(1000)
		s.Global(1001)
		last := map[int]int{}
		for tick := range 61 * 20 {
			for i := range ps {
				g, some := s.Pick(i, tick, (i+1)%ps)
				if !some {
					t.Fatalf("27.2: P %d picks nobody", i)
				}
				last[g] = tick
				if g >= 1000 {
					s.Global(g)
				} else {
					s.Ready(i, g, false)
				}
			}
		}
		if len(last) != 102 {
			t.Errorf("T4: %d were picked", len(last))
		}
		for g, tick := range last {
			if tick < 61*20-61*4 {
				t.Errorf("T4: %d was picked last at tick %d", g, tick)
			}
		}
	}
}

// 27.1: what is told is the caller's own.
func TestListsAreNew(t *testing.T) {
	p := both(t, 2)
	p.fill(0, 1, 9)
	p.global(20, 21, 22)
	clear(p.s.Local(0))
	clear(p.s.Common())
	p.held()
	local, common := append(p.s.Local(0), 77), append(p.s.Common(), 78)
	p.ready(0, 10, false)
	p.global(23)
	if local[9] != 77 || common[3] != 78 {
		t.Error("27.1: what was told has changed")
	}
}

// 27.1: a nil Sched has no Ps, and nobody.
func TestNil(t *testing.T) {
	var none *sched.Sched
	for _, i := range append([]int{0, 1}, far...) {
		none.Global(i)
		if none.Ready(i, 1, true) != api.ErrArg || none.Ready(i, 1, false) != api.ErrArg || none.Drop(i) != 0 || len(none.Local(i)) != 0 {
			t.Errorf("27.1: of none: something of %d", i)
		}
		if g, some := none.Pick(i, 61, 0); g != 0 || some {
			t.Errorf("27.1: Pick of none: %d", g)
		}
		if p, some := none.Where(i); p != 0 || some {
			t.Errorf("27.1: Where of none: %d", p)
		}
	}
	if none.Len() != 0 || len(none.Common()) != 0 {
		t.Error("27.1: of none: somebody")
	}
}

// 27.1: a Sched that New did not make does not panic.
func TestNotNew(t *testing.T) {
	var s sched.Sched
	s.Ready(0, 1, true)
	s.Global(1)
	s.Pick(0, 61, 1)
	s.Drop(0)
	s.Where(1)
	s.Len()
	s.Local(0)
	s.Common()
}
