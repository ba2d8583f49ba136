package barrier_test

import (
	"math"
	"math/rand"
	"slices"
	"testing"

	"treadmill/api"
	"treadmill/barrier"
)

// room: how many pairs are noted at most, as api and 19.1 tell it.
const room = 16

// pair is a Barrier and its list of pairs: each call on both is held against one another, and all that stands there behind it.
type pair struct {
	t *testing.T
	b *barrier.Barrier
	l []api.Pair
}

func both(t *testing.T) *pair {
	t.Helper()
	p := &pair{t: t, b: barrier.New()}
	p.held()
	return p
}

func (p *pair) held() {
	p.t.Helper()
	if got := p.b.All(); !slices.Equal(got, p.l) {
		p.t.Fatalf("19.1: All: %v, not %v", got, p.l)
	}
	if got := p.b.Len(); got != len(p.l) {
		p.t.Fatalf("19.1: Len: %d, not %d", got, len(p.l))
	}
}

func (p *pair) put(old, new int) bool {
	p.t.Helper()
	is := len(p.l) < room
	if is && (old != 0 || new != 0) {
		p.l = append(slices.Clone(p.l), api.Pair{Old: old, New: new})
	}
	if got := p.b.Put(old, new); got != is {
		p.t.Fatalf("19.1: Put(%d, %d) beside %d: %v", old, new, len(p.l), got)
	}
	p.held()
	return is
}

func (p *pair) flush() []int {
	p.t.Helper()
	var want []int
	told := map[int]bool{0: true}
	for _, x := range p.l {
		for _, v := range []int{x.Old, x.New} {
			if !told[v] {
				told[v] = true
				want = append(want, v)
			}
		}
	}
	p.l = nil
	got := p.b.Flush()
	if !slices.Equal(got, want) {
		p.t.Fatalf("19.1: Flush: %v, not %v", got, want)
	}
	p.held()
	return got
}

// 19.1: the document's example.
func TestExample(t *testing.T) {
	p := both(t)
	p.put(5, 0)
	p.put(5, 6)
	if got := p.flush(); !slices.Equal(got, []int{5, 6}) {
		t.Errorf("19.1: Flush: %v", got)
	}
}

// 19.1: Put of two 0 notes nothing, of one 0 on either side it notes the pair.
func TestZero(t *testing.T) {
	p := both(t)
	for range 3 {
		if !p.put(0, 0) || p.b.Len() != 0 {
			t.Errorf("19.1: Put(0, 0): %d are noted", p.b.Len())
		}
	}
	p.put(0, 7)
	p.put(8, 0)
	p.put(0, 0)
	if got := p.b.All(); !slices.Equal(got, []api.Pair{{Old: 0, New: 7}, {Old: 8, New: 0}}) {
		t.Errorf("19.1: All: %v", got)
	}
	if got := p.flush(); !slices.Equal(got, []int{7, 8}) {
		t.Errorf("19.1: Flush: %v", got)
	}
}

// 19.1: Put up to BarrierCap and one more; two 0 when it is full are false, too.
func TestRoom(t *testing.T) {
	if api.BarrierCap != room {
		t.Fatalf("BarrierCap is %d", api.BarrierCap)
	}
	p := both(t)
	for v := 1; v <= room; v++ {
		if !p.put(0, 0) || !p.put(v, 100+v) {
			t.Errorf("19.1: Put beside %d: false", v-1)
		}
	}
	for _, x := range [][2]int{{1, 101}, {99, 98}, {0, 98}, {99, 0}, {0, 0}} {
		if p.put(x[0], x[1]) || p.b.Len() != room {
			t.Errorf("19.1: Put(%d, %d) when it is full: true", x[0], x[1])
		}
	}
	if got := p.flush(); len(got) != 2*room || got[0] != 1 || got[1] != 101 || got[31] != 116 {
		t.Errorf("19.1: Flush: %v", got)
	}
	if !p.put(99, 98) || p.b.Len() != 1 {
		t.Error("19.1: Put behind a Flush: false")
	}
}

// 19.1: pairs that are alike are each noted, and told once.
func TestAlike(t *testing.T) {
	p := both(t)
	for range room {
		p.put(4, 4)
	}
	if p.put(4, 4) {
		t.Error("19.1: Put when it is full: true")
	}
	if got := p.flush(); !slices.Equal(got, []int{4}) {
		t.Errorf("19.1: Flush: %v", got)
	}
}

// 19.1: what is told in one Flush is told again in the next, if it is noted again; nothing is noted behind a Flush.
func TestAgain(t *testing.T) {
	p := both(t)
	if got := p.flush(); len(got) != 0 {
		t.Errorf("19.1: Flush of nothing: %v", got)
	}
	for range 3 {
		p.put(1, 2)
		p.put(2, 3)
		p.put(0, 1)
		if got := p.flush(); !slices.Equal(got, []int{1, 2, 3}) || p.b.Len() != 0 || len(p.b.All()) != 0 {
			t.Errorf("19.1: Flush: %v, and %v are noted", got, p.b.All())
		}
		if got := p.flush(); len(got) != 0 {
			t.Errorf("19.1: Flush once more: %v", got)
		}
	}
}

// 19.1: two and three pairs that share numbers in every way, 0 among them.
func TestShared(t *testing.T) {
	for n := range 4 * 4 * 4 * 4 * 4 * 4 {
		p := both(t)
		for range 3 {
			p.put(n%4, n/4%4)
			n /= 16
		}
		p.flush()
		p.flush()
	}
}

// 19.1: any number may be noted.
func TestNumbers(t *testing.T) {
	p := both(t)
	for _, v := range []int{-1, 1, 1 << 32, math.MaxInt, math.MinInt, -1 << 32} {
		p.put(v, -v)
		p.put(-v, v)
	}
	p.flush()
}

// 19.1, 19.2: long rows of Put and Flush, against the list; both what is overwritten and what is written are told.
func TestRows(t *testing.T) {
	r := rand.New(rand.NewSource(19))
	for round := range 200 {
		p := both(t)
		names := map[int]bool{}
		for range 200 {
			if r.Intn(20) == 0 {
				got := p.flush()
				for v := range names {
					if !slices.Contains(got, v) {
						t.Fatalf("19.2: %d is not told: %v", v, got)
					}
				}
				clear(names)
				continue
			}
			old, new := r.Intn(2+round), r.Intn(2+round)
			if p.put(old, new) {
				names[old], names[new] = true, true
				delete(names, 0)
			}
		}
	}
}

// 19.1: what is told is the caller's own.
func TestListsAreNew(t *testing.T) {
	p := both(t)
	for v := 1; v < 9; v++ {
		p.put(v, v+20)
	}
	clear(p.b.All())
	p.held()
	all := append(p.b.All(), api.Pair{Old: 77})
	p.put(9, 29)
	p.held()
	if all[8].Old != 77 {
		t.Error("19.1: what was told has changed")
	}
	got := p.flush()
	p.put(30, 31)
	clear(got)
	p.held()
	p.flush()
}

// 19.1: at a nil Barrier nothing is noted.
func TestNil(t *testing.T) {
	var none *barrier.Barrier
	if none.Put(1, 2) || none.Put(0, 0) || len(none.Flush()) != 0 || none.Len() != 0 || len(none.All()) != 0 {
		t.Error("19.1: of none: something")
	}
}

// 19.1: a Barrier that New did not make does not panic.
func TestNotNew(t *testing.T) {
	var b barrier.Barrier
	b.Flush()
	b.Put(1, 2)
	b.All()
	b.Len()
	b.Flush()
}
