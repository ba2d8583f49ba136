package wait_test

import (
	"math"
	"math/rand"
	"slices"
	"testing"

	"treadmill/api"
	"treadmill/wait"
)

// places: how many there are, as api tells it.
const places = 32

// far: numbers that are no place.
var far = []int{-1, -2, -32, places, places + 1, 64, 1 << 20, 1 << 32, 1<<32 + 1, math.MaxInt, math.MinInt, math.MinInt + 1, math.MaxInt32, math.MinInt32}

// pair is Waits and the lists of its places: each call on both is held against one another, and all that stands there behind it.
type pair struct {
	t *testing.T
	w *wait.Waits
	l [places][]int
}

func both(t *testing.T) *pair {
	t.Helper()
	p := &pair{t: t, w: wait.New()}
	p.held()
	return p
}

func (p *pair) held() {
	p.t.Helper()
	n := 0
	for at, want := range p.l {
		if got := p.w.All(at); !slices.Equal(got, want) {
			p.t.Fatalf("14.1: All(%d): %v, not %v", at, got, want)
		}
		n += len(want)
	}
	if got := p.w.Len(); got != n {
		p.t.Fatalf("14.1: Len: %d, not %d", got, n)
	}
}

// at is where g waits; -1, if it waits nowhere.
func (p *pair) at(g int) int {
	for at, l := range p.l {
		if slices.Contains(l, g) {
			return at
		}
	}
	return -1
}

func (p *pair) wait(at, g int) int {
	p.t.Helper()
	want := api.OK
	switch {
	case at < 0 || at >= places:
		want = api.ErrRange
	case p.at(g) >= 0:
		want = api.ErrState
	default:
		p.l[at] = append(slices.Clone(p.l[at]), g)
	}
	got := p.w.Wait(at, g)
	if got != want {
		p.t.Fatalf("14.1: Wait(%d, %d): %d, not %d", at, g, got, want)
	}
	p.held()
	return got
}

func (p *pair) wake(at int) (int, bool) {
	p.t.Helper()
	want, some := 0, at >= 0 && at < places && len(p.l[at]) > 0
	if some {
		want, p.l[at] = p.l[at][0], p.l[at][1:]
	}
	g, ok := p.w.Wake(at)
	if g != want || ok != some {
		p.t.Fatalf("14.1: Wake(%d): %d, %v, not %d, %v", at, g, ok, want, some)
	}
	p.held()
	return g, ok
}

func (p *pair) del(g int) bool {
	p.t.Helper()
	at := p.at(g)
	if at >= 0 {
		i := slices.Index(p.l[at], g)
		p.l[at] = slices.Delete(slices.Clone(p.l[at]), i, i+1)
	}
	got := p.w.Del(g)
	if got != (at >= 0) {
		p.t.Fatalf("14.1: Del(%d): %v", g, got)
	}
	p.held()
	return got
}

// 14.1: the document's example.
func TestExample(t *testing.T) {
	p := both(t)
	if err := p.wait(0, 5); err != api.OK {
		t.Errorf("14.1: Wait(0, 5): %d", err)
	}
	if g, some := p.wake(0); g != 5 || !some {
		t.Errorf("14.1: Wake(0): %d, %v", g, some)
	}
}

// 14.1: there are as many places as api says, each with its own list.
func TestPlaces(t *testing.T) {
	if api.MaxWaits != places {
		t.Fatalf("MaxWaits is %d", api.MaxWaits)
	}
	p := both(t)
	for round := range 3 {
		for at := range places {
			if err := p.wait(at, round*places+at); err != api.OK {
				t.Errorf("14.1: Wait(%d): %d", at, err)
			}
		}
	}
	for at := range places {
		for _, want := range []int{at, places + at, 2*places + at} {
			if g, some := p.wake(at); g != want || !some {
				t.Errorf("14.1: Wake(%d): %d, %v, not %d", at, g, some, want)
			}
		}
		p.wake(at)
	}
}

// 14.1: of no place Wait is ErrRange, also of who waits already, Wake is false, and All is nothing.
func TestNoPlace(t *testing.T) {
	p := both(t)
	for range 2 {
		for _, at := range far {
			if err := p.wait(at, 1); err != api.ErrRange {
				t.Errorf("14.1: Wait(%d, 1): %d", at, err)
			}
			if g, some := p.wake(at); g != 0 || some {
				t.Errorf("14.1: Wake(%d): %d, %v", at, g, some)
			}
			if all := p.w.All(at); len(all) != 0 {
				t.Errorf("14.1: All(%d): %v", at, all)
			}
		}
		for at := range places {
			p.wait(at, at)
		}
	}
}

// 14.1: who waits somewhere waits nowhere else, till it is woken or taken out.
func TestTwice(t *testing.T) {
	for at := range places {
		p := both(t)
		p.wait(at, 1)
		p.wait(at, 2)
		for other := range places {
			for g := 1; g < 3; g++ {
				if err := p.wait(other, g); err != api.ErrState {
					t.Errorf("14.1: Wait(%d, %d) of one that waits at %d: %d", other, g, at, err)
				}
			}
		}
		p.wake(at)
		if err := p.wait(places-1-at, 1); err != api.OK {
			t.Errorf("14.1: Wait of one that was woken: %d", err)
		}
		p.del(2)
		if err := p.wait(places-1-at, 2); err != api.OK {
			t.Errorf("14.1: Wait of one that was taken out: %d", err)
		}
	}
}

// 14.1: any number may wait.
func TestNumbers(t *testing.T) {
	p := both(t)
	for i, g := range append([]int{0, 1, 1023, 1024}, far...) {
		p.wait(i%3, g)
		p.wait(i%5, g)
	}
	for _, g := range far {
		p.del(g)
		p.del(g)
	}
	p.wake(0)
}

// 14.1: Del out of each place of lists of each length, then Wait again, behind all others.
func TestDel(t *testing.T) {
	p := both(t)
	if p.del(0) {
		t.Error("14.1: Del of nobody")
	}
	for n := 1; n < 12; n++ {
		for place := range n {
			p := both(t)
			for g := range n {
				p.wait(7, g)
				p.wait(31, 100+g)
			}
			if !p.del(place) || p.del(place) {
				t.Fatalf("14.1: Del(%d) of %d, then once more", place, n)
			}
			p.wait(7, place)
			if all := p.w.All(7); all[len(all)-1] != place {
				t.Errorf("14.1: %d does not wait behind all others: %v", place, all)
			}
			p.del(100 + place)
			p.wait(0, 100+place)
			for range n {
				p.wake(7)
			}
		}
	}
}

// 14.1: long rows of all calls over all places, against the lists.
func TestRows(t *testing.T) {
	r := rand.New(rand.NewSource(14))
	for round := range 40 {
		p := both(t)
		wide := 2 + r.Intn(places+1)
		for range 500 {
			at := r.Intn(wide) - 1
			switch what := r.Intn(100); {
			case what < 50:
				p.wait(at, r.Intn(4+3*round))
			case what < 80-round%10:
				p.wake(at)
			default:
				p.del(r.Intn(5 + 3*round))
			}
		}
	}
}

// 14.2: who waits longest is woken first, at each place, through long rows.
func TestLongestFirst(t *testing.T) {
	r := rand.New(rand.NewSource(142))
	w := wait.New()
	since := map[int]int{} // of who waits: as which one it began
	var last [places]int
	for begun := 1; begun <= 20000; begun++ {
		if g := r.Intn(200); w.Wait(r.Intn(places), g) == api.OK {
			since[g] = begun
		}
		at := r.Intn(places)
		g, some := w.Wake(at)
		if !some {
			continue
		}
		if since[g] <= last[at] {
			t.Fatalf("14.2: %d waited at %d since %d (0: not at all), and one since %d was woken ahead", g, at, since[g], last[at])
		}
		last[at] = since[g]
		delete(since, g)
	}
	if w.Len() != len(since) {
		t.Errorf("14.2: %d wait, not %d", w.Len(), len(since))
	}
}

// 14.1: what is told is the caller's own.
func TestListsAreNew(t *testing.T) {
	p := both(t)
	for g := range 6 {
		p.wait(3, g)
	}
	clear(p.w.All(3))
	p.held()
	all := append(p.w.All(3)[:2], 9, 9, 9, 9, 9)
	p.held()
	p.wake(3)
	p.wait(3, 8)
	p.del(2)
	if all[2] != 9 || all[6] != 9 {
		t.Error("14.1: what was told has changed")
	}
}

// 14.1: at a nil Waits nobody waits.
func TestNil(t *testing.T) {
	var none *wait.Waits
	for _, at := range append([]int{0, 1, 31}, far...) {
		if err := none.Wait(at, 1); err != api.ErrArg {
			t.Errorf("14.1: Wait(%d) of none: %d", at, err)
		}
		if g, some := none.Wake(at); g != 0 || some {
			t.Errorf("14.1: Wake(%d) of none: %d, %v", at, g, some)
		}
		if len(none.All(at)) != 0 {
			t.Errorf("14.1: All(%d) of none: somebody", at)
		}
	}
	if none.Del(1) || none.Len() != 0 {
		t.Error("14.1: of none: somebody")
	}
}

// 14.1: Waits that New did not make do not panic.
func TestNotNew(t *testing.T) {
	var w wait.Waits
	w.Del(1)
	w.Wake(0)
	w.Wait(0, 1)
	w.All(0)
	w.Wake(0)
	w.Len()
}
