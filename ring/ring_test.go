package ring_test

import (
	"math"
	"math/rand"
	"slices"
	"testing"

	"treadmill/ring"
)

// 10.1: the document's example.
func TestExample(t *testing.T) {
	p := both(t)
	p.put(1, true)
	p.put(2, true)
	for _, want := range []int{2, 1} {
		if g, ok := p.get(); g != want || !ok {
			t.Errorf("10.1: Get: %d, %v, not %d", g, ok, want)
		}
	}
	if g, ok := p.get(); g != 0 || ok {
		t.Errorf("10.1: Get of none: %d, %v", g, ok)
	}
}

// 10.1: the row comes first in, first out, behind who is next.
func TestOrder(t *testing.T) {
	p := both(t)
	for _, g := range []int{3, 1, 2} {
		p.put(g, false)
	}
	p.put(9, true) // nobody was next
	p.put(4, false)
	p.put(8, true) // 9 goes behind the row
	if want := []int{8, 3, 1, 2, 4, 9}; !slices.Equal(p.r.All(), want) {
		t.Errorf("10.1: All: %v, not %v", p.r.All(), want)
	}
	for _, want := range []int{8, 3, 1, 2, 4, 9} {
		if g, ok := p.get(); g != want || !ok {
			t.Errorf("10.1: Get: %d, %v, not %d", g, ok, want)
		}
	}
}

// 10.1: any number is a goroutine, 0 and those below it, too; one may stand there twice.
func TestNumbers(t *testing.T) {
	p := both(t)
	for i, g := range []int{0, 0, -1, math.MaxInt, math.MinInt, 5, 5, 0} {
		p.put(g, i%2 == 0)
	}
	for range 2 {
		for _, g := range []int{5, math.MinInt, 7, 0} {
			p.del(g)
		}
	}
	for ok := true; ok; {
		_, ok = p.get()
	}
	p.put(0, true)
	if g, ok := p.get(); g != 0 || !ok {
		t.Errorf("10.1: Get: %d, %v", g, ok)
	}
}

// 10.1: a full row: its first 128 are told, and the one that finds no room behind them; what is next stays, or comes.
func TestFull(t *testing.T) {
	for _, begun := range []int{0, 1, 100, 128, 200, 255} {
		for _, has := range []bool{false, true} {
			for _, next := range []bool{false, true} {
				p := rowOf(t, 1000, 256, begun, has)
				told := p.put(7, next)
				if next && !has {
					if len(told) != 0 || p.r.Len() != 257 {
						t.Errorf("10.1: next, as nobody was: %v", told)
					}
					continue
				}
				last := 7
				if next {
					last = 1256
				}
				if len(told) != 129 || told[0] != 1000 || told[127] != 1127 || told[128] != last {
					t.Errorf("10.1: Put into a full row tells %v", told)
				}
				if n := p.r.Len(); has && n != 129 || !has && n != 128 {
					t.Errorf("10.1: %d are left", n)
				}
				p.put(8, true)
				p.put(9, false)
			}
		}
	}
}

// 10.1: a row of 255, of 256, and one more.
func TestAlmostFull(t *testing.T) {
	p := rowOf(t, 0, 255, 3, false)
	if told := p.put(255, false); len(told) != 0 || p.r.Len() != 256 {
		t.Errorf("10.1: the last place: %v", told)
	}
	if told := p.put(256, false); len(told) != 129 || p.r.Len() != 128 {
		t.Errorf("10.1: one more: %v", told)
	}
	for range 128 {
		if told := p.put(1, false); len(told) != 0 {
			t.Errorf("10.1: there was room: %v", told)
		}
	}
	if told := p.put(2, false); len(told) != 129 || told[0] != 128 {
		t.Errorf("10.1: one more again: %v", told)
	}
}

// 10.1: Steal from rows of every length: the first n less n / 2, in their order; o's next stays, if there is a row.
func TestSteal(t *testing.T) {
	for n := range 257 {
		for _, next := range []bool{false, true} {
			p, o := rowOf(t, 5000, n%3, n, n%2 > 0), rowOf(t, 1000, n, n*7, next)
			ahead := p.r.All()
			count := n - n/2
			if n == 0 && next {
				count = 1
			}
			if got := p.steal(o); got != count {
				t.Errorf("10.1: of %d stolen: %d, not %d", n, got, count)
			}
			for i := range count {
				ahead = append(ahead, 1000+i)
			}
			if got := p.r.All(); !slices.Equal(got, ahead) {
				t.Errorf("10.1: of %d stolen: %v, not %v", n, got, ahead)
			}
			p.put(1, true)
			o.put(2, false)
		}
	}
}

// 10.1: Steal into rows that have little room.
func TestStealLittleRoom(t *testing.T) {
	for _, has := range []int{256, 255, 254, 250, 129, 128, 127} {
		for _, n := range []int{0, 1, 2, 3, 4, 5, 11, 12, 13, 254, 255, 256} {
			for _, next := range []bool{false, true} {
				p, o := rowOf(t, 5000, has, n, next), rowOf(t, 1000, n, has, true)
				want := min(n-n/2, 256-has)
				if n == 0 {
					want = min(1, 256-has)
				}
				if got := p.steal(o); got != want {
					t.Errorf("10.1: Steal of %d into %d: %d, not %d", n, has, got, want)
				}
				o.steal(p)
			}
		}
	}
}

// 10.1: Steal of a next alone: it comes behind the row, not to be next.
func TestStealNext(t *testing.T) {
	p, o := both(t), both(t)
	o.put(5, true)
	p.put(6, false)
	p.put(7, true)
	if n := p.steal(o); n != 1 || !slices.Equal(p.r.All(), []int{7, 6, 5}) || o.r.Len() != 0 {
		t.Errorf("10.1: Steal: %d, %v", n, p.r.All())
	}
	if n := p.steal(o); n != 0 {
		t.Errorf("10.1: Steal of an empty one: %d", n)
	}
	q := both(t)
	o.put(8, true)
	q.steal(o)
	q.put(9, true)
	if want := []int{9, 8}; !slices.Equal(q.r.All(), want) {
		t.Errorf("10.1: All: %v, not %v", q.r.All(), want)
	}
	full := rowOf(t, 0, 256, 0, false)
	o.put(9, true)
	if n := full.steal(o); n != 0 || o.r.Len() != 1 {
		t.Errorf("10.1: Steal of next into a full row: %d", n)
	}
}

// 10.1: Steal of itself, and of nil.
func TestStealSelf(t *testing.T) {
	for _, n := range []int{0, 1, 2, 9, 255, 256} {
		for _, next := range []bool{false, true} {
			p := rowOf(t, 100, n, n, next)
			if got := p.steal(p); got != 0 {
				t.Errorf("10.1: Steal of itself: %d", got)
			}
			if got := p.r.Steal(nil); got != 0 {
				t.Errorf("10.1: Steal of nil: %d", got)
			}
			var none *ring.Ring
			if got := none.Steal(p.r); got != 0 {
				t.Errorf("10.1: nil steals %d", got)
			}
			p.held()
		}
	}
}

// 10.1: Del takes out the first one in All's order, at every place, and leaves the others in their order.
func TestDel(t *testing.T) {
	for _, begun := range []int{0, 1, 130, 250, 255} {
		for _, n := range []int{0, 1, 2, 3, 10, 256} {
			for place := range n + 1 {
				if n == 256 && place%37 > 1 && place < 254 {
					continue
				}
				p := rowOf(t, 1000, n, begun, place%2 > 0)
				want := place < n || place%2 > 0
				if got := p.del(1000 + place); got != want {
					t.Errorf("10.1: Del at %d of %d: %v", place, n, got)
				}
				p.del(1000 + place)
				p.put(5, false)
				p.put(6, true)
			}
		}
	}
}

// 10.1: of those who are like each other Del takes one: who is next ahead of the row, the row's first one ahead of its others.
func TestDelTwice(t *testing.T) {
	p := both(t)
	for _, g := range []int{1, 2, 1, 2, 1} {
		p.put(g, false)
	}
	p.put(1, true)
	for _, want := range [][]int{{1, 2, 1, 2, 1}, {2, 1, 2, 1}, {2, 2, 1}, {2, 2}} {
		if !p.del(1) || !slices.Equal(p.r.All(), want) {
			t.Errorf("10.1: behind Del(1): %v, not %v", p.r.All(), want)
		}
	}
	if p.del(1) || !p.del(2) {
		t.Error("10.1: Del of one that is not there, or of one that is")
	}
}

// 10.1: long rows of all calls on some rings, against their rows.
func TestRows(t *testing.T) {
	r := rand.New(rand.NewSource(10))
	for round := range 30 {
		rings := []*pair{both(t), both(t), both(t)}
		puts := 30 + round // in some rounds the rows get full, in others empty
		for range 1500 {
			p, o := rings[r.Intn(3)], rings[r.Intn(3)]
			switch what := r.Intn(100); {
			case what < puts:
				p.put(r.Intn(300), r.Intn(4) == 0)
			case what < 85:
				p.get()
			case what < 92:
				p.steal(o)
			default:
				p.del(r.Intn(300))
			}
		}
	}
}

// 10.2: nobody is lost, and nobody is there twice that was not: each is in one ring, or was told, or got.
func TestNobodyLost(t *testing.T) {
	r := rand.New(rand.NewSource(102))
	rings := []*ring.Ring{ring.New(), ring.New(), ring.New(), ring.New()}
	out := 0
	seen := map[int]bool{}
	leave := func(l ...int) {
		for _, g := range l {
			if seen[g] {
				t.Fatalf("10.2: %d was there twice", g)
			}
			seen[g] = true
			out++
		}
	}
	for g := range 20000 {
		p := rings[r.Intn(1+g%4)]
		leave(p.Put(g, r.Intn(3) == 0)...)
		switch r.Intn(4) {
		case 0:
			if g, ok := rings[r.Intn(4)].Get(); ok {
				leave(g)
			}
		case 1:
			rings[r.Intn(4)].Steal(rings[r.Intn(4)])
		case 2:
			if all := p.All(); g%5 == 0 && len(all) > 0 {
				g := all[r.Intn(len(all))]
				if p.Del(g) {
					leave(g)
				}
			}
		}
		there := 0
		for _, p := range rings {
			there += p.Len()
		}
		if out+there != g+1 {
			t.Fatalf("10.2: of %d %d are out, and %d are there", g+1, out, there)
		}
	}
	for _, p := range rings {
		leave(p.All()...)
	}
	if out != 20000 {
		t.Errorf("10.2: %d, not 20000", out)
	}
}

// 10.1: the lists are the caller's own.
func TestListsAreNew(t *testing.T) {
	p := rowOf(t, 1, 256, 9, true)
	clear(p.r.All())
	p.held()
	told := p.put(3, false)
	clear(told)
	p.held()
	told = append(told, 1, 2, 3)
	p.held()
	p.put(4, false)
	clear(p.r.All()[1:])
	p.held()
}

// 10.1: a nil Ring has nobody.
func TestNil(t *testing.T) {
	var none *ring.Ring
	for _, next := range []bool{false, true} {
		if told := none.Put(1, next); len(told) != 0 {
			t.Errorf("10.1: of none: Put: %v", told)
		}
		if g, ok := none.Get(); g != 0 || ok {
			t.Errorf("10.1: of none: Get: %d, %v", g, ok)
		}
		if none.Len() != 0 || len(none.All()) != 0 || none.Del(1) || none.Del(0) || none.Steal(none) != 0 || none.Steal(ring.New()) != 0 {
			t.Error("10.1: of none: somebody")
		}
	}
}
