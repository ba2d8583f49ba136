package model_test

import (
	"math/rand"
	"slices"
	"testing"

	"treadmill/api"
	"treadmill/model"
)

// one is a goroutine of a plain model: of one that waits when it goes on, or else at which place, and since which call.
type one struct {
	state, f, pc, counter int
	stack                 [16]int
	sleeps                bool
	when                  int64
	at, since             int
}

// plain is what 16.1 says, done by going through all goroutines and objects each time.
type plain struct {
	p       api.Program
	gs      []one
	globals []int
	slots   [][]int // by identity; there is none of 0
	clock   int64
	calls   int
}

func newPlain(p api.Program) *plain {
	return &plain{p: p, gs: []one{{state: api.GRunnable}}, globals: make([]int, p.Globals), slots: [][]int{nil}}
}

// next is a goroutine's next instruction.
func (m *plain) next(g int) (api.Inst, bool) {
	if g < 0 || g >= len(m.gs) || m.gs[g].state == api.GDead {
		return api.Inst{}, false
	}
	x := m.gs[g]
	if x.pc == len(m.p.Funcs[x.f]) {
		return api.Inst{}, true
	}
	return m.p.Funcs[x.f][x.pc], true
}

// do does a goroutine's next instruction.
func (m *plain) do(g int) (api.Commit, int) {
	if g < 0 || g >= len(m.gs) {
		return api.Commit{}, api.ErrNone
	}
	if m.gs[g].state != api.GRunnable {
		return api.Commit{}, api.ErrState
	}
	m.calls++
	in, _ := m.next(g)
	x := m.gs[g]
	c := api.Commit{G: g, F: x.f, PC: x.pc, Op: in.Op}
	x.pc++
	x.since = m.calls
	switch in.Op {
	case api.OpExit:
		x.state = api.GDead
	case api.OpAlloc:
		m.slots = append(m.slots, make([]int, in.B+1))
		c.Value = len(m.slots) - 1
		x.stack[in.A] = c.Value
	case api.OpLoad:
		if l := m.slots[x.stack[in.B]]; in.C < len(l) {
			x.stack[in.A], c.Value = l[in.C], l[in.C]
		} else {
			c.Fault = true
		}
	case api.OpStore:
		if l := m.slots[x.stack[in.A]]; in.B < len(l) {
			l[in.B] = x.stack[in.C]
		} else {
			c.Fault = true
		}
	case api.OpMove:
		x.stack[in.A] = x.stack[in.B]
	case api.OpNil:
		x.stack[in.A] = 0
	case api.OpGet:
		x.stack[in.A] = m.globals[in.B]
	case api.OpPut:
		m.globals[in.A] = x.stack[in.B]
	case api.OpSpawn:
		if len(m.gs) == 1024 {
			c.Fault = true
		} else {
			c.Value = len(m.gs)
			m.gs = append(m.gs, one{state: api.GRunnable, f: in.A, stack: [16]int{x.stack[in.B]}})
		}
	case api.OpSleep:
		x.state, x.sleeps, x.when = api.GWaits, true, m.clock+int64(256*in.B+in.C+1)
	case api.OpBlock:
		x.state, x.sleeps, x.at = api.GWaits, false, in.A
	case api.OpWake:
		c.Value = -1
		for other, y := range m.gs {
			if y.state == api.GWaits && !y.sleeps && y.at == in.A && (c.Value < 0 || y.since < m.gs[c.Value].since) {
				c.Value = other
			}
		}
		if c.Value >= 0 {
			m.gs[c.Value].state = api.GRunnable
		}
	case api.OpEq:
		if x.stack[in.A] == x.stack[in.B] {
			c.Value = 1
		}
	case api.OpJump:
		x.pc = in.A
	case api.OpJeq:
		if x.stack[in.A] == x.stack[in.B] {
			x.pc = in.C
		}
	case api.OpSet:
		x.counter = 256*in.A + in.B
	case api.OpDec:
		if x.counter > 0 {
			x.counter--
			x.pc = in.A
		}
	}
	if c.Fault {
		x.state = api.GDead
	}
	m.gs[g] = x
	return c, api.OK
}

// tick lets ticks go by: who wakes, sought one by one.
func (m *plain) tick(n int) []int {
	if n > 0 {
		m.clock += int64(n)
	}
	var woken []int
	for {
		first := -1
		for g, x := range m.gs {
			if x.state == api.GWaits && x.sleeps && x.when <= m.clock && (first < 0 || x.when < m.gs[first].when || x.when == m.gs[first].when && x.since < m.gs[first].since) {
				first = g
			}
		}
		if first < 0 {
			return woken
		}
		m.gs[first].state = api.GRunnable
		woken = append(woken, first)
	}
}

// reach is what can be reached, by going over all objects till none is new.
func (m *plain) reach() []int {
	is := map[int]bool{}
	for _, id := range m.globals {
		is[id] = true
	}
	for _, x := range m.gs {
		for _, id := range x.stack {
			if x.state != api.GDead {
				is[id] = true
			}
		}
	}
	for more := true; more; {
		more = false
		for id, l := range m.slots {
			for _, to := range l {
				if is[id] && !is[to] {
					is[to], more = true, true
				}
			}
		}
	}
	var all []int
	for id := 1; id < len(m.slots); id++ {
		if is[id] {
			all = append(all, id)
		}
	}
	return all
}

// stuck is whether none is runnable, none sleeps, and some wait.
func (m *plain) stuck() bool {
	some := false
	for _, x := range m.gs {
		if x.state == api.GRunnable || x.state == api.GWaits && x.sleeps {
			return false
		}
		some = some || x.state == api.GWaits
	}
	return some
}

// pair is a Model and a plain one: each call on both is held against one another, and all that is seen behind it.
type pair struct {
	t *testing.T
	m *model.Model
	l *plain
}

func both(t *testing.T, p api.Program) *pair {
	t.Helper()
	m, err := model.New(p)
	if err != api.OK || m == nil {
		t.Fatalf("16.1: New(%v): %d", p, err)
	}
	x := &pair{t: t, m: m, l: newPlain(p)}
	x.held()
	return x
}

func (p *pair) held() {
	p.t.Helper()
	if n := p.m.Gs(); n != len(p.l.gs) {
		p.t.Fatalf("16.1: Gs: %d, not %d", n, len(p.l.gs))
	}
	for g, x := range p.l.gs {
		if s := p.m.State(g); s != x.state {
			p.t.Fatalf("16.1: State(%d): %d, not %d", g, s, x.state)
		}
		in, some := p.m.Next(g)
		if want, is := p.l.next(g); in != want || some != is {
			p.t.Fatalf("16.1: Next(%d): %v, %v, not %v, %v", g, in, some, want, is)
		}
		if stack := p.m.Stack(g); x.state != api.GDead && !slices.Equal(stack, x.stack[:]) {
			p.t.Fatalf("16.1: Stack(%d): %v, not %v", g, stack, x.stack)
		}
	}
	if l := p.m.Globals(); !slices.Equal(l, p.l.globals) {
		p.t.Fatalf("16.1: Globals: %v, not %v", l, p.l.globals)
	}
	if n := p.m.Ids(); n != len(p.l.slots)-1 {
		p.t.Fatalf("16.1: Ids: %d, not %d", n, len(p.l.slots)-1)
	}
	for id := 1; id < len(p.l.slots); id++ {
		if l := p.m.Slots(id); !slices.Equal(l, p.l.slots[id]) {
			p.t.Fatalf("16.1: Slots(%d): %v, not %v", id, l, p.l.slots[id])
		}
	}
	if n := p.m.Clock(); n != p.l.clock {
		p.t.Fatalf("16.1: Clock: %d, not %d", n, p.l.clock)
	}
	if l, want := p.m.Reach(), p.l.reach(); !slices.Equal(l, want) {
		p.t.Fatalf("16.1: Reach: %v, not %v", l, want)
	}
	if is := p.m.Stuck(); is != p.l.stuck() {
		p.t.Fatalf("16.1: Stuck: %v", is)
	}
}

func (p *pair) do(g int) (api.Commit, int) {
	p.t.Helper()
	want, no := p.l.do(g)
	c, err := p.m.Do(g)
	if c != want || err != no {
		p.t.Fatalf("16.1: Do(%d): %+v, %d, not %+v, %d", g, c, err, want, no)
	}
	p.held()
	return c, err
}

func (p *pair) tick(n int) []int {
	p.t.Helper()
	want := p.l.tick(n)
	got := p.m.Tick(n)
	if !slices.Equal(got, want) {
		p.t.Fatalf("16.1: Tick(%d): %v, not %v", n, got, want)
	}
	p.held()
	return got
}

// commits does goroutine g's instructions, and holds what is told of each.
func (p *pair) commits(g int, want ...api.Commit) {
	p.t.Helper()
	for _, w := range want {
		if c, err := p.do(g); c != w || err != api.OK {
			p.t.Fatalf("16.1: Do(%d): %+v, %d, not %+v", g, c, err, w)
		}
	}
}

// times does so many of goroutine g's instructions.
func (p *pair) times(g, n int) {
	p.t.Helper()
	for range n {
		if _, err := p.do(g); err != api.OK {
			p.t.Fatalf("16.1: Do(%d): %d", g, err)
		}
	}
}

// program is one of so many globals, and of functions.
func program(globals int, funcs ...[]api.Inst) api.Program {
	return api.Program{Globals: globals, Funcs: funcs}
}

// some is a program that goes on for long: each function allocates, does this and that with some places of its stack, and jumps back.
func some(r *rand.Rand) api.Program {
	p := api.Program{Globals: 1 + r.Intn(4)}
	funcs := 1 + r.Intn(5)
	for range funcs {
		n := 8 + r.Intn(50)
		f := make([]api.Inst, n)
		for i := range f {
			f[i] = someInst(r, p.Globals, funcs, n)
			if i < 5 {
				f[i] = api.Inst{Op: api.OpAlloc, A: i, B: r.Intn(4)}
			}
		}
		if r.Intn(8) > 0 {
			f[n-1] = api.Inst{Op: api.OpJump, A: r.Intn(n)}
		}
		p.Funcs = append(p.Funcs, f)
	}
	return p
}

// someInst is an instruction, those that end a goroutine seldom ones.
func someInst(r *rand.Rand, globals, funcs, n int) api.Inst {
	place := func() int { return r.Intn(6) }
	switch op := r.Intn(18); op {
	case api.OpExit:
		return api.Inst{Op: []int{api.OpExit, api.OpYield, api.OpYield, api.OpYield}[r.Intn(4)]}
	case api.OpAlloc:
		return api.Inst{Op: op, A: place(), B: r.Intn(5)}
	case api.OpLoad:
		return api.Inst{Op: op, A: 5 + r.Intn(11), B: place(), C: r.Intn(2)}
	case api.OpStore:
		return api.Inst{Op: op, A: place(), B: r.Intn(2), C: r.Intn(16)}
	case api.OpMove:
		return api.Inst{Op: op, A: place(), B: place()}
	case api.OpNil:
		return api.Inst{Op: op, A: 5 + r.Intn(11)}
	case api.OpGet:
		return api.Inst{Op: op, A: r.Intn(16), B: r.Intn(globals)}
	case api.OpPut:
		return api.Inst{Op: op, A: r.Intn(globals), B: place()}
	case api.OpSpawn:
		return api.Inst{Op: op, A: r.Intn(funcs), B: place()}
	case api.OpSleep:
		return api.Inst{Op: op, B: r.Intn(10) / 9, C: r.Intn(6)}
	case api.OpBlock, api.OpWake:
		return api.Inst{Op: op, A: r.Intn(3)}
	case api.OpEq:
		return api.Inst{Op: op, A: place(), B: place()}
	case api.OpJump, api.OpDec:
		return api.Inst{Op: op, A: r.Intn(n)}
	case api.OpJeq:
		return api.Inst{Op: op, A: place(), B: place(), C: r.Intn(n)}
	case api.OpSet:
		return api.Inst{Op: op, B: r.Intn(4)}
	}
	return api.Inst{Op: api.OpYield}
}
