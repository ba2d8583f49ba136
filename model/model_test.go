package model_test

import (
	"math"
	"math/rand"
	"slices"
	"testing"

	"treadmill/api"
	"treadmill/model"
)

// far: numbers of no goroutine and of no object.
var far = []int{-1, -2, -1024, 1 << 20, 1 << 32, 1<<32 + 1, math.MaxInt32, math.MinInt32, math.MaxInt, math.MinInt}

// 16.1: the document's example.
func TestExample(t *testing.T) {
	p := both(t, program(0, []api.Inst{{Op: api.OpExit}}))
	if p.m.State(0) != api.GRunnable || p.m.Gs() != 1 {
		t.Errorf("16.1: at the beginning: %d, %d", p.m.State(0), p.m.Gs())
	}
	p.commits(0, api.Commit{})
	if p.m.State(0) != api.GDead {
		t.Errorf("16.1: State(0): %d", p.m.State(0))
	}
}

// 16.1: at the beginning all is 0.
func TestBeginning(t *testing.T) {
	for _, globals := range []int{0, 1, 7, 32} {
		p := both(t, program(globals, []api.Inst{{Op: api.OpYield}}, []api.Inst{{Op: api.OpExit}}))
		if !slices.Equal(p.m.Globals(), make([]int, globals)) || !slices.Equal(p.m.Stack(0), make([]int, 16)) || p.m.Clock() != 0 || p.m.Ids() != 0 || len(p.m.Reach()) != 0 || p.m.Stuck() {
			t.Errorf("16.1: of %d globals: not all is 0", globals)
		}
		if in, is := p.m.Next(0); in.Op != api.OpYield || !is {
			t.Errorf("16.1: Next(0): %v, %v", in, is)
		}
	}
}

// 16.1: each kind of instruction by hand, its commit whole.
func TestKinds(t *testing.T) {
	p := both(t, program(3,
		[]api.Inst{
			{Op: api.OpAlloc, A: 2, B: 3},        // 1 of four slots
			{Op: api.OpAlloc, A: 15, B: 255},     // 2 of 256
			{Op: api.OpStore, A: 2, B: 3, C: 15}, // its last slot
			{Op: api.OpStore, A: 15, B: 255, C: 2},
			{Op: api.OpLoad, A: 4, B: 2, C: 3},
			{Op: api.OpLoad, A: 5, B: 4, C: 255},
			{Op: api.OpLoad, A: 6, B: 4, C: 254}, // 0
			{Op: api.OpEq, A: 5, B: 2},
			{Op: api.OpEq, A: 5, B: 4},
			{Op: api.OpEq, A: 6, B: 7}, // both 0
			{Op: api.OpMove, A: 8, B: 4},
			{Op: api.OpPut, A: 2, B: 8},
			{Op: api.OpNil, A: 4},
			{Op: api.OpGet, A: 9, B: 2},
			{Op: api.OpYield},
			{Op: api.OpSpawn, A: 1, B: 9},
			{Op: api.OpJeq, A: 8, B: 2, C: 0},  // not
			{Op: api.OpJeq, A: 8, B: 9, C: 19}, // on at the jump
			{Op: api.OpExit},
			{Op: api.OpJump, A: 21},
			{Op: api.OpExit},
			{Op: api.OpSet, A: 0, B: 2},
			{Op: api.OpDec, A: 22},
			{Op: api.OpSet, A: 1, B: 1}, // 257
			{Op: api.OpDec, A: 24},
			{Op: api.OpWake, A: 31},
		},
		[]api.Inst{{Op: api.OpBlock, A: 31}, {Op: api.OpYield}},
	))
	at := func(pc, op, value int) api.Commit { return api.Commit{PC: pc, Op: op, Value: value} }
	p.commits(0, at(0, api.OpAlloc, 1), at(1, api.OpAlloc, 2), at(2, api.OpStore, 0), at(3, api.OpStore, 0), at(4, api.OpLoad, 2), at(5, api.OpLoad, 1), at(6, api.OpLoad, 0))
	if l := p.m.Slots(1); !slices.Equal(l, []int{0, 0, 0, 2}) {
		t.Errorf("16.1: Slots(1): %v", l)
	}
	if l := p.m.Slots(2); len(l) != 256 || l[255] != 1 {
		t.Errorf("16.1: Slots(2): %v", l)
	}
	p.commits(0, at(7, api.OpEq, 1), at(8, api.OpEq, 0), at(9, api.OpEq, 1), at(10, api.OpMove, 0), at(11, api.OpPut, 0), at(12, api.OpNil, 0), at(13, api.OpGet, 0), at(14, api.OpYield, 0))
	if l := p.m.Stack(0); !slices.Equal(l, []int{0, 0, 1, 0, 0, 1, 0, 0, 2, 2, 0, 0, 0, 0, 0, 2}) {
		t.Errorf("16.1: Stack(0): %v", l)
	}
	if l := p.m.Globals(); !slices.Equal(l, []int{0, 0, 2}) {
		t.Errorf("16.1: Globals: %v", l)
	}
	p.commits(0, at(15, api.OpSpawn, 1))
	if l := p.m.Stack(1); !slices.Equal(l, append([]int{2}, make([]int, 15)...)) || p.m.State(1) != api.GRunnable || p.m.Gs() != 2 {
		t.Errorf("16.1: who was begun: %v, %d", l, p.m.State(1))
	}
	p.commits(1, api.Commit{G: 1, F: 1, PC: 0, Op: api.OpBlock})
	p.commits(0, at(16, api.OpJeq, 0), at(17, api.OpJeq, 0), at(19, api.OpJump, 0), at(21, api.OpSet, 0), at(22, api.OpDec, 0), at(22, api.OpDec, 0), at(22, api.OpDec, 0), at(23, api.OpSet, 0))
	for range 258 {
		p.commits(0, at(24, api.OpDec, 0))
	}
	p.commits(0, at(25, api.OpWake, 1), at(26, api.OpExit, 0))
	p.commits(1, api.Commit{G: 1, F: 1, PC: 1, Op: api.OpYield}, api.Commit{G: 1, F: 1, PC: 2, Op: api.OpExit})
}

// 16.1: behind a function's last instruction it ends, whatever that was but a jump, and its PC is the function's length.
func TestBehindTheEnd(t *testing.T) {
	for _, last := range []api.Inst{{Op: api.OpYield}, {Op: api.OpAlloc}, {Op: api.OpSleep}, {Op: api.OpBlock}, {Op: api.OpDec}, {Op: api.OpJeq, A: 0, B: 1}, {Op: api.OpSpawn, A: 1}} {
		p := both(t, program(0, []api.Inst{{Op: api.OpAlloc}, last}, []api.Inst{{Op: api.OpWake}}))
		p.times(0, 2)
		p.tick(1)
		if p.m.State(0) == api.GWaits { // blocked
			continue
		}
		if in, is := p.m.Next(0); in != (api.Inst{}) || !is {
			t.Errorf("16.1: Next behind the end: %v, %v", in, is)
		}
		p.commits(0, api.Commit{PC: 2, Op: api.OpExit})
		if _, is := p.m.Next(0); is || p.m.State(0) != api.GDead {
			t.Error("16.1: behind the end it is not dead")
		}
	}
	p := both(t, program(0, []api.Inst{{Op: api.OpSpawn, A: 1}, {Op: api.OpYield}, {Op: api.OpWake}}, []api.Inst{{Op: api.OpBlock}}))
	p.commits(0, api.Commit{PC: 0, Op: api.OpSpawn, Value: 1})
	p.commits(1, api.Commit{G: 1, F: 1, PC: 0, Op: api.OpBlock})
	if in, is := p.m.Next(1); in != (api.Inst{}) || !is {
		t.Errorf("16.1: Next of one that waits behind its last instruction: %v, %v", in, is)
	}
	p.times(0, 2)
	p.commits(1, api.Commit{G: 1, F: 1, PC: 1, Op: api.OpExit})
}

// 16.1: each fault, the commit whole, and the dead behind it: none of its calls does anything any more.
func TestFaults(t *testing.T) {
	for _, x := range []struct {
		in    api.Inst
		fault bool
	}{
		{api.Inst{Op: api.OpLoad, A: 1, B: 0}, true}, {api.Inst{Op: api.OpLoad, A: 1, B: 3, C: 2}, false}, {api.Inst{Op: api.OpLoad, A: 1, B: 3, C: 3}, true}, {api.Inst{Op: api.OpLoad, A: 1, B: 3, C: 255}, true},
		{api.Inst{Op: api.OpStore, A: 0, B: 0, C: 3}, true}, {api.Inst{Op: api.OpStore, A: 3, B: 2, C: 3}, false}, {api.Inst{Op: api.OpStore, A: 3, B: 3, C: 3}, true}, {api.Inst{Op: api.OpStore, A: 3, B: 255, C: 0}, true},
		{api.Inst{Op: api.OpLoad, A: 3, B: 1, C: 0}, true}, {api.Inst{Op: api.OpStore, A: 1, B: 0, C: 1}, true},
	} {
		p := both(t, program(1, []api.Inst{{Op: api.OpSpawn, A: 1}, {Op: api.OpYield}}, []api.Inst{{Op: api.OpAlloc, A: 3, B: 2}, {Op: api.OpPut, B: 3}, x.in, {Op: api.OpYield}}))
		p.times(0, 1)
		p.times(1, 2)
		p.commits(1, api.Commit{G: 1, F: 1, PC: 2, Op: x.in.Op, Fault: x.fault})
		if (p.m.State(1) == api.GDead) != x.fault {
			t.Errorf("16.1: behind %v: %d", x.in, p.m.State(1))
		}
		if x.fault {
			if _, is := p.m.Next(1); is {
				t.Errorf("16.1: Next of the dead: %v", x.in)
			}
			if c, err := p.do(1); err != api.ErrState || c != (api.Commit{}) {
				t.Errorf("16.1: Do of the dead: %v, %d", c, err)
			}
			if l := p.m.Slots(1); !slices.Equal(l, make([]int, 3)) {
				t.Errorf("16.1: behind a fault: %v", l)
			}
		}
		p.times(0, 2)
	}
}

// 16.1: spawn up to MaxGs and one more, the dead counted: the fault ends who asks.
func TestMaxGs(t *testing.T) {
	m, _ := model.New(program(0,
		[]api.Inst{{Op: api.OpAlloc, A: 7}, {Op: api.OpSpawn, A: 1}, {Op: api.OpSpawn, A: 2, B: 7}, {Op: api.OpJump, A: 2}},
		[]api.Inst{{Op: api.OpSpawn, A: 2}},
		[]api.Inst{{Op: api.OpExit}},
	))
	m.Do(0)
	m.Do(0)
	for g := 2; g < api.MaxGs; g++ {
		if c, err := m.Do(0); c != (api.Commit{PC: 2, Op: api.OpSpawn, Value: g}) || err != api.OK {
			t.Fatalf("16.1: spawn: %+v, %d", c, err)
		}
		m.Do(0)
		if g%2 == 0 {
			m.Do(g)
		}
	}
	if m.Gs() != 1024 || m.State(1022) != api.GDead || m.State(1023) != api.GRunnable || m.State(1024) != api.GIdle || m.Stack(1023)[0] != 1 {
		t.Errorf("16.1: of MaxGs: %d", m.Gs())
	}
	if c, err := m.Do(1); c != (api.Commit{G: 1, F: 1, Op: api.OpSpawn, Fault: true}) || err != api.OK || m.State(1) != api.GDead {
		t.Errorf("16.1: one more: %+v, %d", c, err)
	}
	if c, err := m.Do(0); c != (api.Commit{PC: 2, Op: api.OpSpawn, Fault: true}) || err != api.OK || m.State(0) != api.GDead || m.Gs() != 1024 {
		t.Errorf("16.1: one more, once more: %+v, %d", c, err)
	}
	if c, err := m.Do(1023); c != (api.Commit{G: 1023, F: 2}) || err != api.OK {
		t.Errorf("16.1: the last one: %+v, %d", c, err)
	}
}

// 16.1: who sleeps waits for 256 B and C and 1 ticks, no less.
func TestSleep(t *testing.T) {
	for _, x := range []struct{ b, c, ticks int }{{0, 0, 1}, {0, 1, 2}, {0, 255, 256}, {1, 0, 257}, {2, 7, 520}, {255, 255, 65536}} {
		for _, begun := range []int{0, 1, 1000} {
			p := both(t, program(0, []api.Inst{{Op: api.OpSleep, B: x.b, C: x.c}, {Op: api.OpYield}}))
			p.tick(begun)
			p.commits(0, api.Commit{Op: api.OpSleep})
			if p.m.State(0) != api.GWaits || p.m.Stuck() {
				t.Errorf("16.1: who sleeps: %d, %v", p.m.State(0), p.m.Stuck())
			}
			if c, err := p.do(0); err != api.ErrState || c != (api.Commit{}) {
				t.Errorf("16.1: Do of one that sleeps: %v, %d", c, err)
			}
			for _, n := range []int{0, -1, math.MinInt, x.ticks - 1, 0} {
				if l := p.tick(n); len(l) != 0 {
					t.Errorf("16.1: told ahead of its time: %v", l)
				}
			}
			if l := p.tick(1); !slices.Equal(l, []int{0}) || p.m.State(0) != api.GRunnable || p.m.Clock() != int64(begun+x.ticks) {
				t.Errorf("16.1: its time has come: %v, %d, %d", l, p.m.State(0), p.m.Clock())
			}
			p.commits(0, api.Commit{PC: 1, Op: api.OpYield})
		}
	}
}

// 16.1: who wakes is told by their time, of like ones in the order in which they fell asleep, not in that of their numbers.
func TestTick(t *testing.T) {
	sleeper := func(n int) []api.Inst { return []api.Inst{{Op: api.OpSleep, C: n}, {Op: api.OpSleep, C: n}} }
	var first []api.Inst
	for g := range 6 {
		first = append(first, api.Inst{Op: api.OpSpawn, A: 1 + g%3})
	}
	asleep := func() *pair {
		p := both(t, program(0, first, sleeper(4), sleeper(9), sleeper(4)))
		p.times(0, 6)
		for _, g := range []int{6, 2, 4, 5, 3, 1} {
			p.times(g, 1)
		}
		return p
	}
	for _, x := range []struct {
		n    int
		want []int
	}{{-1, nil}, {0, nil}, {4, nil}, {5, []int{6, 4, 3, 1}}, {9, []int{6, 4, 3, 1}}, {10, []int{6, 4, 3, 1, 2, 5}}, {1 << 30, []int{6, 4, 3, 1, 2, 5}}} {
		p := asleep()
		if l := p.tick(x.n); !slices.Equal(l, x.want) {
			t.Errorf("16.1: Tick(%d): %v, not %v", x.n, l, x.want)
		}
		if l := p.tick(0); len(l) != 0 {
			t.Errorf("16.1: Tick(0): %v", l)
		}
	}
	p := asleep()
	p.tick(5)
	p.times(1, 1) // till 10, as 2 and 5, but later asleep
	p.times(6, 1)
	if l := p.tick(5); !slices.Equal(l, []int{2, 5, 1, 6}) {
		t.Errorf("16.1: Tick(5): %v", l)
	}
}

// 16.1: many ticks at once, and more than a clock has: nothing panics.
func TestClock(t *testing.T) {
	p := both(t, program(0, []api.Inst{{Op: api.OpSleep, B: 255, C: 255}, {Op: api.OpJump}}))
	p.tick(1 << 30)
	p.times(0, 1)
	p.tick(1 << 29)
	p.times(0, 2)
	p.tick(65535)
	p.tick(1)
	for range 4 {
		p.m.Tick(math.MaxInt)
		p.m.Do(0)
		p.m.Clock()
	}
}

// 16.1: the first one that waits at a place is woken, behind its instruction; of nobody -1.
func TestWake(t *testing.T) {
	var first []api.Inst
	for g := range 4 {
		first = append(first, api.Inst{Op: api.OpSpawn, A: 1 + g%2})
	}
	for _, at := range []int{30, 31, 30, 30, 31, 31, 0} {
		first = append(first, api.Inst{Op: api.OpWake, A: at})
	}
	p := both(t, program(0, first, []api.Inst{{Op: api.OpBlock, A: 30}, {Op: api.OpYield}, {Op: api.OpBlock, A: 31}}, []api.Inst{{Op: api.OpBlock, A: 31}, {Op: api.OpYield}}))
	p.times(0, 4)
	for _, g := range []int{3, 1, 4, 2} {
		p.times(g, 1)
		if p.m.State(g) != api.GWaits {
			t.Errorf("16.1: who waits: %d", p.m.State(g))
		}
		if c, err := p.do(g); err != api.ErrState || c != (api.Commit{}) {
			t.Errorf("16.1: Do of one that waits: %v, %d", c, err)
		}
	}
	wake := func(pc, value int) api.Commit { return api.Commit{PC: pc, Op: api.OpWake, Value: value} }
	p.commits(0, wake(4, 3), wake(5, 4))
	p.commits(3, api.Commit{G: 3, F: 1, PC: 1, Op: api.OpYield}, api.Commit{G: 3, F: 1, PC: 2, Op: api.OpBlock})
	p.commits(0, wake(6, 1), wake(7, -1), wake(8, 2), wake(9, 3), wake(10, -1))
	if l := p.tick(1 << 20); len(l) != 0 {
		t.Errorf("16.1: who waits at a place wakes by no tick: %v", l)
	}
}

// 16.1: of none and of what is no object there is nothing.
func TestNone(t *testing.T) {
	p := both(t, program(2, []api.Inst{{Op: api.OpAlloc, B: 4}, {Op: api.OpSpawn}, {Op: api.OpExit}}))
	for range 3 {
		gs, ids := p.m.Gs(), p.m.Ids()
		for _, n := range append([]int{gs, gs + 1, 1023, 1024}, far...) {
			if s := p.m.State(n); s != api.GIdle {
				t.Errorf("16.1: State(%d): %d", n, s)
			}
			if in, is := p.m.Next(n); is || in != (api.Inst{}) {
				t.Errorf("16.1: Next(%d): %v, %v", n, in, is)
			}
			if c, err := p.do(n); err != api.ErrNone || c != (api.Commit{}) {
				t.Errorf("16.1: Do(%d): %v, %d", n, c, err)
			}
			if l := p.m.Stack(n); len(l) != 0 {
				t.Errorf("16.1: Stack(%d): %v", n, l)
			}
		}
		for _, id := range append([]int{0, ids + 1, ids + 2}, far...) {
			if l := p.m.Slots(id); len(l) != 0 {
				t.Errorf("16.1: Slots(%d): %v", id, l)
			}
		}
		p.do(0)
	}
}

// 16.1: what can be reached: over cycles, from globals, from stacks, of the dead not.
func TestReach(t *testing.T) {
	p := both(t, program(1,
		[]api.Inst{
			{Op: api.OpAlloc, A: 0, B: 1},
			{Op: api.OpAlloc, A: 1, B: 1},
			{Op: api.OpAlloc, A: 2, B: 1},
			{Op: api.OpStore, A: 0, B: 1, C: 1}, // 1, 2, 3, 1
			{Op: api.OpStore, A: 1, B: 0, C: 2},
			{Op: api.OpStore, A: 2, B: 1, C: 0},
			{Op: api.OpNil, A: 0},
			{Op: api.OpNil, A: 1},
			{Op: api.OpPut, A: 0, B: 2},
			{Op: api.OpNil, A: 2},
			{Op: api.OpAlloc, A: 3, B: 0}, // 4, of itself
			{Op: api.OpStore, A: 3, B: 0, C: 3},
			{Op: api.OpSpawn, A: 1, B: 3},
			{Op: api.OpNil, A: 3},
			{Op: api.OpPut, A: 0, B: 3},
			{Op: api.OpAlloc, A: 9},
		},
		[]api.Inst{{Op: api.OpBlock}, {Op: api.OpExit}},
	))
	for n, want := range [][]int{{1}, {1, 2}, {1, 2, 3}, {1, 2, 3}, {1, 2, 3}, {1, 2, 3}, {1, 2, 3}, {1, 2, 3}, {1, 2, 3}, {1, 2, 3}, {1, 2, 3, 4}, {1, 2, 3, 4}, {1, 2, 3, 4}, {1, 2, 3, 4}, {4}} {
		p.times(0, 1)
		if l := p.m.Reach(); !slices.Equal(l, want) {
			t.Errorf("16.1: Reach behind instruction %d: %v, not %v", n, l, want)
		}
	}
	p.times(1, 1) // it waits, and holds on to 4
	p.times(0, 1)
	if l := p.m.Reach(); !slices.Equal(l, []int{4, 5}) {
		t.Errorf("16.1: Reach: %v", l)
	}
	p.times(0, 1)
	if l := p.m.Reach(); !slices.Equal(l, []int{4}) {
		t.Errorf("16.1: Reach behind the one's end: %v", l)
	}
	if n := p.m.Ids(); n != 5 || len(p.m.Slots(1)) != 2 {
		t.Errorf("16.1: objects stay: %d", n)
	}
}

// 16.1: Reach goes over long chains, too.
func TestReachFar(t *testing.T) {
	m, _ := model.New(program(0, []api.Inst{{Op: api.OpAlloc, A: 1}, {Op: api.OpStore, A: 1, C: 0}, {Op: api.OpMove, A: 0, B: 1}, {Op: api.OpJump}}))
	for range 4 * 20000 {
		m.Do(0)
	}
	if n := len(m.Reach()); n != 20000 || m.Ids() != 20000 {
		t.Errorf("16.1: Reach: %d of %d", n, m.Ids())
	}
}

// 16.1: Stuck: none is runnable, none sleeps, some wait.
func TestStuck(t *testing.T) {
	p := both(t, program(0, []api.Inst{{Op: api.OpSpawn, A: 1}, {Op: api.OpSpawn, A: 2}, {Op: api.OpBlock, A: 3}}, []api.Inst{{Op: api.OpBlock, A: 4}}, []api.Inst{{Op: api.OpSleep, C: 1}, {Op: api.OpWake, A: 3}}))
	stuck := func(want bool) {
		t.Helper()
		if is := p.m.Stuck(); is != want {
			t.Errorf("16.1: Stuck: %v", is)
		}
	}
	p.times(0, 2)
	p.times(1, 1)
	stuck(false) // 0 and 2 are runnable
	p.times(0, 1)
	stuck(false) // 2 is
	p.times(2, 1)
	stuck(false) // it sleeps
	p.tick(1)
	stuck(false)
	p.tick(1)
	stuck(false)
	p.times(2, 1)
	p.times(0, 1)
	stuck(false) // 2 is at its end, and runnable
	p.times(2, 1)
	stuck(true) // 0 and 2 are dead, 1 waits
	p.tick(1000)
	stuck(true)
	q := both(t, program(0, []api.Inst{{Op: api.OpExit}}))
	q.times(0, 1)
	if q.m.Stuck() {
		t.Error("16.1: Stuck, though all are dead")
	}
}

// 16.1: New of a program that may not be.
func TestMayNotBe(t *testing.T) {
	for _, p := range []api.Program{
		{}, program(-1, []api.Inst{{}}), program(33, []api.Inst{{}}), program(0, nil), program(0, []api.Inst{{}}, nil), program(0, make([]api.Inst, 65)),
		program(0, []api.Inst{{Op: 18}}), program(0, []api.Inst{{Op: -1}}), program(0, []api.Inst{{}, {A: 1}}), program(0, []api.Inst{{Op: api.OpGet}}), program(2, []api.Inst{{Op: api.OpPut, A: 2}}),
		program(0, []api.Inst{{Op: api.OpJump, A: 1}}), program(0, []api.Inst{{Op: api.OpSpawn, A: 1}}), program(0, []api.Inst{{Op: api.OpLoad, C: 256}}), program(0, []api.Inst{{Op: api.OpMove, A: 16}}),
	} {
		if m, err := model.New(p); m != nil || err != api.ErrArg {
			t.Errorf("16.1: New(%v): %v, %d", p, m, err)
		}
	}
}

// 16.1: long rows of calls on many programs, against the plain model.
func TestRows(t *testing.T) {
	r := rand.New(rand.NewSource(16))
	done := map[int]int{}
	faults := 0
	for range 500 {
		p := both(t, some(r))
		for range 400 {
			g := r.Intn(p.m.Gs()+2) - 1
			if r.Intn(12) == 0 {
				p.tick(r.Intn(6) - 1)
				continue
			}
			for range r.Intn(4) {
				if c, err := p.do(g); err == api.OK {
					done[c.Op]++
					if c.Fault {
						faults++
					}
				}
			}
		}
	}
	for op := range 18 {
		if done[op] < 100 {
			t.Errorf("only %d of Op %d were done", done[op], op)
		}
	}
	if faults < 100 {
		t.Errorf("only %d faults", faults)
	}
}

// 16.2: the same program and the same calls give the same answers, whatever is asked between.
func TestTheSameAgain(t *testing.T) {
	r := rand.New(rand.NewSource(162))
	for range 60 {
		p := some(r)
		a, _ := model.New(p)
		b, _ := model.New(p)
		for range 600 {
			g, n := r.Intn(a.Gs()+1), r.Intn(30)
			a.Reach()
			a.Stack(g)
			a.Next(g)
			a.Stuck()
			if n < 3 {
				if x, y := a.Tick(n), b.Tick(n); !slices.Equal(x, y) {
					t.Fatalf("16.2: Tick(%d): %v and %v", n, x, y)
				}
				continue
			}
			x, one := a.Do(g)
			y, other := b.Do(g)
			if x != y || one != other {
				t.Fatalf("16.2: Do(%d): %+v, %d and %+v, %d", g, x, one, y, other)
			}
		}
		if !slices.Equal(a.Reach(), b.Reach()) || !slices.Equal(a.Globals(), b.Globals()) || a.Ids() != b.Ids() {
			t.Fatal("16.2: two that were the same are not")
		}
	}
}

// 16.1: the program is not changed and not kept, and what is told is the caller's own.
func TestListsAreNew(t *testing.T) {
	r := rand.New(rand.NewSource(163))
	handed := some(r)
	var kept api.Program
	kept.Globals = handed.Globals
	for _, f := range handed.Funcs {
		kept.Funcs = append(kept.Funcs, slices.Clone(f))
	}
	m, _ := model.New(handed)
	p := &pair{t: t, m: m, l: newPlain(kept)}
	for i, f := range handed.Funcs {
		if !slices.Equal(f, kept.Funcs[i]) {
			t.Error("16.1: New has changed the program")
		}
		clear(f)
		handed.Funcs[i] = nil
	}
	for range 200 {
		p.do(0)
		clear(m.Stack(0))
		clear(m.Globals())
		clear(m.Slots(1))
		clear(m.Reach())
		clear(p.tick(1))
		p.held()
	}
}

// 16.1: of a nil Model there is nothing.
func TestNil(t *testing.T) {
	var none *model.Model
	for _, n := range append([]int{0, 1, 2}, far...) {
		if c, err := none.Do(n); err != api.ErrArg || c != (api.Commit{}) {
			t.Errorf("16.1: Do(%d) of none: %v, %d", n, c, err)
		}
		if in, is := none.Next(n); is || in != (api.Inst{}) || none.State(n) != api.GIdle || len(none.Stack(n)) != 0 || len(none.Slots(n)) != 0 || len(none.Tick(n)) != 0 {
			t.Errorf("16.1: of none: something of %d", n)
		}
	}
	if none.Gs() != 0 || none.Clock() != 0 || len(none.Globals()) != 0 || none.Ids() != 0 || len(none.Reach()) != 0 || none.Stuck() {
		t.Error("16.1: of none: something")
	}
}

// 16.1: a Model that New did not make does not panic.
func TestNotNew(t *testing.T) {
	var m model.Model
	m.Do(0)
	m.Next(0)
	m.Tick(1)
	m.Stack(0)
	m.Globals()
	m.Slots(1)
	m.Reach()
	m.Stuck()
	m.State(0)
	m.Gs()
	m.Ids()
	m.Clock()
}
