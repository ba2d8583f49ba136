package state_test

import (
	"math"
	"math/rand"
	"slices"
	"testing"

	"treadmill/api"
	"treadmill/state"
)

// all: every state there is.
var all = []int{api.GIdle, api.GRunnable, api.GRuns, api.GWaits, api.GAssists, api.GDead}

// far: numbers that are no state and no goroutine.
var far = []int{-1, -2, -6, 1 << 20, 1 << 32, 1<<32 + 1, 1<<32 + 2, math.MaxInt, math.MinInt, math.MinInt + 1, math.MaxInt32, math.MinInt32}

// may is 12.1's moves, one by one.
func may(from, to int) bool {
	switch from {
	case api.GRunnable:
		return to == api.GRuns
	case api.GRuns:
		return to == api.GRunnable || to == api.GWaits || to == api.GAssists || to == api.GDead
	case api.GWaits, api.GAssists:
		return to == api.GRunnable
	}
	return false
}

// pair is States and a list of them: each call on both is held against one another, and all that is seen behind it.
type pair struct {
	t *testing.T
	s *state.States
	l []int
}

func both(t *testing.T) *pair {
	t.Helper()
	p := &pair{t: t, s: state.New()}
	p.held()
	return p
}

func (p *pair) held() {
	p.t.Helper()
	if got := p.s.Len(); got != len(p.l) {
		p.t.Fatalf("12.1: Len: %d, not %d", got, len(p.l))
	}
	count := map[int]int{}
	var alive []int
	for g, x := range p.l {
		if got := p.s.Of(g); got != x {
			p.t.Fatalf("12.1: Of(%d): %d, not %d", g, got, x)
		}
		count[x]++
		if x != api.GDead {
			alive = append(alive, g)
		}
	}
	if got := p.s.Alive(); !slices.Equal(got, alive) {
		p.t.Fatalf("12.1: Alive: %v, not %v", got, alive)
	}
	sum := 0
	for _, x := range all {
		if got := p.s.Count(x); got != count[x] {
			p.t.Fatalf("12.1: Count(%d): %d, not %d", x, got, count[x])
		}
		sum += p.s.Count(x)
	}
	if sum != p.s.Len() {
		p.t.Fatalf("12.2: the counts together are %d, not %d", sum, p.s.Len())
	}
}

func (p *pair) spawn() (int, int) {
	p.t.Helper()
	want, no := len(p.l), api.OK
	if want == 1024 {
		want, no = 0, api.ErrFull
	} else {
		p.l = append(p.l, api.GRunnable)
	}
	g, err := p.s.Spawn()
	if g != want || err != no {
		p.t.Fatalf("12.1: Spawn: %d, %d, not %d, %d", g, err, want, no)
	}
	p.held()
	return g, err
}

func (p *pair) move(g, to int) int {
	p.t.Helper()
	want := api.OK
	switch {
	case g < 0 || g >= len(p.l):
		want = api.ErrNone
	case !may(p.l[g], to):
		want = api.ErrState
	default:
		p.l[g] = to
	}
	got := p.s.Move(g, to)
	if got != want {
		p.t.Fatalf("12.1: Move(%d, %d): %d, not %d", g, to, got, want)
	}
	p.held()
	return got
}

// in is a goroutine that was brought to a state.
func (p *pair) in(x int) int {
	p.t.Helper()
	g, _ := p.spawn()
	if x != api.GRunnable {
		p.move(g, api.GRuns)
	}
	if x != api.GRunnable && x != api.GRuns {
		p.move(g, x)
	}
	return g
}

// 12.1: the document's example.
func TestExample(t *testing.T) {
	p := both(t)
	if g, err := p.spawn(); g != 0 || err != api.OK {
		t.Errorf("12.1: Spawn: %d, %d", g, err)
	}
	if p.move(0, api.GRuns) != api.OK || p.move(0, api.GDead) != api.OK || p.s.Of(0) != api.GDead {
		t.Errorf("12.1: Move: %d", p.s.Of(0))
	}
}

// 12.1: May of every two states, and of numbers that are none.
func TestMay(t *testing.T) {
	yes := [][2]int{{1, 2}, {2, 1}, {2, 3}, {2, 4}, {2, 5}, {3, 1}, {4, 1}}
	numbers := append([]int{6, 7, 8}, append(far, all...)...)
	for _, from := range numbers {
		for _, to := range numbers {
			if got, want := state.May(from, to), slices.Contains(yes, [2]int{from, to}); got != want {
				t.Errorf("12.1: May(%d, %d): %v", from, to, got)
			}
		}
	}
}

// 12.1: Move from every state to every state, and to numbers that are none: where it may not be, nothing has changed.
func TestMove(t *testing.T) {
	for _, from := range all[1:] {
		for _, to := range append([]int{6, 7}, append(far, all...)...) {
			p := both(t)
			p.in(api.GRuns)
			g := p.in(from)
			p.in(api.GWaits)
			want := api.ErrState
			if may(from, to) {
				want = api.OK
			}
			if err := p.move(g, to); err != want {
				t.Errorf("12.1: Move from %d to %d: %d", from, to, err)
			}
		}
	}
}

// 12.1: of none Move is ErrNone, also to what may not be, and Of is GIdle.
func TestNone(t *testing.T) {
	p := both(t)
	for n := range 3 {
		for _, g := range append([]int{n, n + 1, 1023, 1024}, far...) {
			if x := p.s.Of(g); x != api.GIdle {
				t.Errorf("12.1: Of(%d): %d", g, x)
			}
			for _, to := range append([]int{6, -1}, all...) {
				if err := p.move(g, to); err != api.ErrNone {
					t.Errorf("12.1: Move(%d, %d): %d", g, to, err)
				}
			}
		}
		p.spawn()
	}
}

// 12.1: Count of what is no state is 0, of GIdle too.
func TestCount(t *testing.T) {
	p := both(t)
	for i := range 20 {
		p.in(all[1+i%5])
	}
	for _, x := range append([]int{6, 7, api.GIdle}, far...) {
		if n := p.s.Count(x); n != 0 {
			t.Errorf("12.1: Count(%d): %d", x, n)
		}
	}
	for _, x := range all[1:] {
		if n := p.s.Count(x); n != 4 {
			t.Errorf("12.1: Count(%d): %d, not 4", x, n)
		}
	}
}

// 12.1: Spawn up to MaxGs, and one more: ErrFull, also if all are dead.
func TestMost(t *testing.T) {
	p := both(t)
	for want := range 1024 {
		if g, err := p.spawn(); g != want || err != api.OK {
			t.Fatalf("12.1: Spawn: %d, %d, not %d", g, err, want)
		}
		if want%2 > 0 {
			p.move(want, api.GRuns)
			p.move(want, api.GDead)
		}
	}
	for range 3 {
		if g, err := p.spawn(); g != 0 || err != api.ErrFull {
			t.Fatalf("12.1: Spawn of one more: %d, %d", g, err)
		}
	}
	for g := range 1024 {
		p.move(g, api.GRuns)
		p.move(g, api.GDead)
	}
	if g, err := p.spawn(); g != 0 || err != api.ErrFull || p.s.Count(api.GDead) != 1024 || len(p.s.Alive()) != 0 {
		t.Errorf("12.1: all are dead: Spawn: %d, %d", g, err)
	}
	if x := p.s.Of(1024); x != api.GIdle || p.move(1024, api.GRuns) != api.ErrNone {
		t.Errorf("12.1: the one that found no room: %d", x)
	}
}

// 12.2: the dead stay dead, whatever is asked.
func TestDead(t *testing.T) {
	p := both(t)
	g := p.in(api.GDead)
	for range 2 {
		for _, to := range append([]int{6, 7}, append(far, all...)...) {
			if err := p.move(g, to); err != api.ErrState || p.s.Of(g) != api.GDead {
				t.Errorf("12.2: Move of a dead one to %d: %d", to, err)
			}
		}
		p.spawn()
	}
}

// 12.1, 12.2: long rows of Spawn and Move, against the list.
func TestRows(t *testing.T) {
	r := rand.New(rand.NewSource(12))
	for range 25 {
		p := both(t)
		for range 1200 {
			switch what := r.Intn(100); {
			case what < 10:
				p.spawn()
			case what < 13:
				p.move(far[r.Intn(len(far))], r.Intn(8)-1)
			default:
				p.move(r.Intn(len(p.l)+1), r.Intn(8)-1)
			}
		}
	}
}

// 12.1: what Alive tells is the caller's own.
func TestListsAreNew(t *testing.T) {
	p := both(t)
	for range 5 {
		p.spawn()
	}
	l := p.s.Alive()
	for i := range l {
		l[i] = 9
	}
	p.held()
	p.spawn()
}

// 12.1: a nil States has nobody: ErrArg.
func TestNil(t *testing.T) {
	var none *state.States
	if g, err := none.Spawn(); g != 0 || err != api.ErrArg {
		t.Errorf("12.1: of none: Spawn: %d, %d", g, err)
	}
	for _, g := range append([]int{0, 1}, far...) {
		for _, to := range append([]int{6, -1}, all...) {
			if err := none.Move(g, to); err != api.ErrArg {
				t.Errorf("12.1: of none: Move(%d, %d): %d", g, to, err)
			}
		}
		if none.Of(g) != api.GIdle || none.Count(g) != 0 {
			t.Errorf("12.1: of none: Of(%d), or Count", g)
		}
	}
	if none.Len() != 0 || len(none.Alive()) != 0 {
		t.Error("12.1: of none: somebody")
	}
}
