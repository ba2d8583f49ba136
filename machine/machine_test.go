package machine_test

import (
	"math"
	"math/rand"
	"slices"
	"testing"

	"treadmill/api"
	"treadmill/code"
	"treadmill/machine"
	"treadmill/model"
)

// usual is a configuration of so many Ps and words.
func usual(ps, words int) api.Config {
	return api.Config{Ps: ps, Words: words, Percent: 100, Part: 0.25}
}

// off is one whose collector is off.
func off(ps, words int) api.Config {
	return api.Config{Ps: ps, Words: words, Percent: math.Inf(1), Part: 0.25}
}

// encoded is a program's script.
func encoded(t *testing.T, p api.Program) []byte {
	t.Helper()
	script, err := code.Encode(p)
	if err != api.OK {
		t.Fatalf("a program that may not be: %+v", p)
	}
	return script
}

// turn goes on by rounds till that phase begins.
func (w *watch) turn(phase int) {
	w.t.Helper()
	for range 10000 {
		for p := range w.c.Ps {
			if e := w.step(api.Choice{P: p, Victim: (p + 1) % w.c.Ps}); e.Kind == api.EvPhase && e.Phase == phase {
				return
			}
		}
	}
	w.t.Fatalf("phase %d does not begin", phase)
}

// commits is how many commits there were of an Op.
func (w *watch) commits(op int) int {
	n := 0
	for i := range w.m.Commits() {
		if c, _ := w.m.Commit(i); c.Op == op {
			n++
		}
	}
	return n
}

func TestExample(t *testing.T) {
	t.Parallel()
	w := watched(t, usual(1, 256), program(0, f(exit())))
	if e := w.step(api.Choice{}); e != (api.Event{Kind: api.EvCommit}) || w.m.Status() != api.Done {
		t.Fatalf("%+v, Status %d", e, w.m.Status())
	}
}

func TestNewOfConfigurations(t *testing.T) {
	t.Parallel()
	script := encoded(t, program(0, f(exit())))
	for _, c := range []api.Config{{}, {Ps: 0, Words: 256}, {Ps: 65, Words: 256}, {Ps: -1, Words: 256}, {Ps: 1, Words: 192}, {Ps: 1, Words: 300}, {Ps: 1, Words: -256}, {Ps: 1, Words: api.MaxWords + 64}} {
		for _, s := range [][]byte{script, nil, {1}} { // the configuration is asked first
			if m, err, at := machine.New(c, s); m != nil || err != api.ErrArg || at != 0 {
				t.Errorf("28.1: New(%+v): %v %d %d", c, m, err, at)
			}
		}
	}
	for _, c := range []api.Config{{Ps: 1, Words: 256}, {Ps: 64, Words: api.MaxWords}, {Ps: 3, Words: 320, Percent: math.NaN(), Part: math.Inf(-1)}} {
		if m, err, at := machine.New(c, script); m == nil || err != api.OK || at != 0 {
			t.Errorf("28.1: New(%+v): %d %d", c, err, at)
		}
	}
}

func TestNewOfScripts(t *testing.T) {
	t.Parallel()
	whole := encoded(t, program(3, f(alloc(1, 9), put(2, 1), jump(0)), f(sleep(700), spawn(0, 3), exit())))
	for n := range whole {
		held(t, whole[:n])
		for _, b := range []byte{0, 1, 16, 32, 255} {
			other := slices.Clone(whole)
			other[n] = b
			held(t, other)
		}
	}
	held(t, nil)
	held(t, append(whole, 0))
}

// held holds New of a script against code.Decode.
func held(t *testing.T, script []byte) {
	t.Helper()
	_, err, at := code.Decode(script)
	was := slices.Clone(script)
	m, e, i := machine.New(usual(2, 256), script)
	if e != err || i != at || (m == nil) != (err != api.OK) {
		t.Errorf("28.1: New of %v: %d %d, not %d %d", script, e, i, err, at)
	}
	if !slices.Equal(script, was) {
		t.Errorf("the script is changed: %v", was)
	}
}

func TestScriptIsNotKept(t *testing.T) {
	t.Parallel()
	script := encoded(t, program(0, f(jump(0))))
	m, _, _ := machine.New(usual(1, 256), script)
	clear(script)
	for range 9 {
		m.Step(api.Choice{})
	}
	if c, ok := m.Commit(8); !ok || c.Op != api.OpJump {
		t.Errorf("commit 8: %+v", c)
	}
}

func TestDone(t *testing.T) {
	t.Parallel()
	w := watched(t, usual(2, 256), program(0, f(spawn(1, 0), exit()), f(yield(), exit())))
	w.finish(20, api.Done)
	for p := range 2 { // nothing goes on
		w.step(api.Choice{P: p, Tick: 5})
		w.step(api.Choice{P: p, Preempt: true})
	}
}

func TestDeadlock(t *testing.T) {
	t.Parallel()
	// Two that wait for one another.
	w := watched(t, usual(1, 256), program(0, f(spawn(1, 0), block(0), wake(1)), f(block(1), wake(0))))
	w.finish(20, api.Deadlock)
	w.step(api.Choice{Tick: 1 << 20})
	// One that waits, beside the dead.
	watched(t, usual(3, 256), program(0, f(spawn(1, 0), exit()), f(block(31)))).finish(20, api.Deadlock)
	// The commit that ends the run is of another one.
	watched(t, usual(2, 256), program(0, f(spawn(1, 0), sleep(3), exit()), f(block(5)))).ticking(1, api.Deadlock)
}

// ticking goes on by rounds, with so many ticks ahead of each.
func (w *watch) ticking(ticks, status int) {
	w.t.Helper()
	for range 3000 {
		if w.m.Status() == api.Runs {
			w.step(api.Choice{Tick: ticks})
			w.round()
		}
	}
	if w.m.Status() != status {
		w.t.Fatalf("28.1: Status: %d", w.m.Status())
	}
}

func TestSleepersStandStill(t *testing.T) {
	t.Parallel()
	w := watched(t, usual(2, 256), program(0, f(spawn(1, 0), sleep(1<<16)), f(block(0))))
	for range 50 {
		w.round()
	}
	if w.m.Status() != api.Runs || w.m.Enabled(0) || w.m.Enabled(1) || w.m.Commits() != 3 {
		t.Fatalf("28.1: Status %d, %d commits", w.m.Status(), w.m.Commits())
	}
	w.step(api.Choice{P: 1, Tick: 1<<16 - 1})
	if w.m.Enabled(0) || w.m.Enabled(1) {
		t.Fatal("28.8: Enabled ahead of its time")
	}
	if e := w.step(api.Choice{P: 1, Tick: 1}); e != (api.Event{Kind: api.EvCommit}) || w.m.Status() != api.Deadlock {
		t.Fatalf("28.2: who sleeps wakes at first: %+v, Status %d", e, w.m.Status())
	}
}

func TestTicks(t *testing.T) {
	t.Parallel()
	w := watched(t, usual(1, 256), program(0, f(sleep(2), jump(0))))
	clock := int64(0)
	for _, x := range []struct{ tick, more int }{{0, 0}, {1, 1}, {-1, 0}, {math.MinInt, 0}, {1 << 20, 1 << 20}, {1<<20 - 1, 1<<20 - 1}, {1<<20 + 1, 1 << 20}, {math.MaxInt, 1 << 20}} {
		w.step(api.Choice{Tick: x.tick})
		clock += int64(x.more)
		if w.m.View().Clock != clock {
			t.Fatalf("28.2: Tick %d: %d, not %d", x.tick, w.m.View().Clock, clock)
		}
	}
	w.step(api.Choice{P: 1, Tick: 7}) // it is no P: not even ticks
	w.step(api.Choice{P: -1, Tick: 7})
	if w.m.View().Clock != clock || w.m.Steps() != 8 {
		t.Fatalf("28.2: %d ticks, %d steps", w.m.View().Clock, w.m.Steps())
	}
}

func TestVictims(t *testing.T) {
	t.Parallel()
	for _, victim := range []int{1, -1, 3, 9, math.MaxInt, math.MinInt} {
		w := watched(t, usual(3, 256), program(0, f(spawn(1, 0), spawn(1, 0), jump(2)), f(jump(0))))
		for range 3 {
			w.step(api.Choice{})
		}
		if e := w.step(api.Choice{P: 1, Victim: victim}); e.Kind != api.EvNone { // both are in P 0's queue
			t.Fatalf("28.2: victim %d: %+v", victim, e)
		}
		if w.m.Enabled(1) {
			t.Fatal("28.8: Enabled without victims")
		}
		if e := w.step(api.Choice{P: 1, Victim: 0}); e.Kind != api.EvCommit && e.Kind != api.EvSched || w.view.Gs[e.G].P != 1 {
			t.Fatalf("28.2: victim 0: %+v", e)
		}
	}
}

func TestPreempt(t *testing.T) {
	t.Parallel()
	w := watched(t, usual(2, 256), program(0, f(jump(0))))
	if e := w.step(api.Choice{Preempt: true}); e.Kind != api.EvCommit { // it ran nobody
		t.Fatalf("28.2: %+v", e)
	}
	if e := w.step(api.Choice{Preempt: true}); e != (api.Event{Kind: api.EvSched}) {
		t.Fatalf("28.2: %+v", e)
	}
	if e := w.step(api.Choice{P: 1, Preempt: true}); e.Kind != api.EvCommit {
		t.Fatalf("28.2: another P goes on with it: %+v", e)
	}
	if e := w.step(api.Choice{Preempt: true}); e.Kind != api.EvNone {
		t.Fatalf("28.2: nobody is left: %+v", e)
	}
	r := rand.New(rand.NewSource(1))
	w = watched(t, usual(3, 512), wild(r))
	for range 600 {
		w.step(api.Choice{P: r.Intn(3), Victim: r.Intn(3), Preempt: r.Intn(2) == 0, Tick: r.Intn(5)})
	}
}

func TestCommitOfNone(t *testing.T) {
	t.Parallel()
	w := watched(t, usual(1, 256), program(0, f(yield(), exit())))
	for n := range 3 {
		for _, i := range []int{n, n + 1, -1, math.MinInt, math.MaxInt} {
			if c, ok := w.m.Commit(i); ok || c != (api.Commit{}) {
				t.Fatalf("28.3: Commit(%d) of %d: %+v", i, n, c)
			}
		}
		w.step(api.Choice{})
	}
	if c, ok := w.m.Commit(0); !ok || c != (api.Commit{Op: api.OpYield}) {
		t.Fatalf("28.3: Commit(0): %+v", c)
	}
}

func TestCommits(t *testing.T) {
	t.Parallel()
	p := program(2,
		f(alloc(0, 3), store(0, 2, 0), load(1, 0, 2), load(2, 0, 1), eq(0, 1), eq(0, 2), put(1, 0), get(3, 1), move(4, 3), null(3), jeq(0, 4, 12), exit(),
			set(700), dec(13), spawn(1, 4), wake(3), yield(), wake(3), sleep(300), block(0), load(5, 15, 0)),
		f(load(1, 0, 2), eq(0, 1), block(3), sleep(900), wake(0), load(1, 0, 3)))
	w := watched(t, usual(1, 256), p)
	w.ticking(100, api.Done)
	var told []int
	for i := range w.m.Commits() {
		c, _ := w.m.Commit(i)
		if c.Op != api.OpDec {
			told = append(told, c.Value)
		}
		if last := c.Op == api.OpLoad && i > 20 && c.PC == []int{20, 5}[c.F]; c.Fault != last {
			t.Errorf("28.3: commit %d: %+v", i, c)
		}
	}
	addr, _ := w.m.Commit(0)
	want := []int{addr.Value, 0, addr.Value, 0, 1, 0, 0, 0, 0, 0, 0, 0, 1}
	if addr.Value < 64 || !slices.Equal(told[:len(want)], want) {
		t.Errorf("28.3: %v", told)
	}
	if n := w.commits(api.OpDec); n != 701 {
		t.Errorf("28.3: %d times dec", n)
	}
}

func TestMaxGs(t *testing.T) {
	t.Parallel()
	w := watched(t, usual(2, 256), program(0, f(spawn(1, 0), jump(0)), f(block(0))))
	for range 40 { // each step is held against all goroutines: few are enough
		w.round()
	}
	for range 3 * api.MaxGs {
		w.m.Step(api.Choice{P: 0, Victim: 1})
		w.m.Step(api.Choice{P: 1, Victim: 0})
	}
	c, _ := w.m.Commit(w.last(api.OpSpawn))
	if w.m.Status() != api.Deadlock || len(w.m.View().Gs) != api.MaxGs || !c.Fault || c.Value != 0 || c.G != 0 {
		t.Fatalf("28.3: Status %d, %+v", w.m.Status(), c)
	}
}

// byGoroutine is how many commits there were of each goroutine.
func (w *watch) byGoroutine() map[int]int {
	by := map[int]int{}
	for i := range w.m.Commits() {
		c, _ := w.m.Commit(i)
		by[c.G]++
	}
	return by
}

// last is the last commit of an Op.
func (w *watch) last(op int) int {
	for i := w.m.Commits() - 1; i >= 0; i-- {
		if c, _ := w.m.Commit(i); c.Op == op {
			return i
		}
	}
	return -1
}

func TestTheSameAgain(t *testing.T) {
	t.Parallel()
	for seed := range int64(6) {
		r := rand.New(rand.NewSource(seed))
		script := encoded(t, wild(r))
		c := usual(1+r.Intn(4), 64*(5+r.Intn(20)))
		a, _, _ := machine.New(c, script)
		b, _, _ := machine.New(c, script)
		for i := range 4000 {
			ch := choice(r, c.Ps)
			asked(a) // asking turns nothing
			if x, y := a.Step(ch), b.Step(ch); x != y {
				t.Fatalf("28.2: %+v and %+v of %+v", x, y, ch)
			}
			if i%200 == 0 && !same(a.View(), b.View()) {
				t.Fatal("28.4: two views")
			}
			if !slices.Equal(a.Freed(), b.Freed()) {
				t.Fatal("28.4: two Freed")
			}
		}
		if a.Steps() != b.Steps() || a.Commits() != b.Commits() || a.Goal() != b.Goal() || a.Live() != b.Live() || !same(a.View(), b.View()) {
			t.Fatal("28.2: the same choices")
		}
	}
}

func TestLikeConfigurations(t *testing.T) {
	t.Parallel()
	// What comes to the same by conf runs the same.
	r := rand.New(rand.NewSource(7))
	script := encoded(t, program(1, f(spawn(1, 0), spawn(1, 0), spawn(2, 0), exit()), f(alloc(0, 7), alloc(1, 30), jump(0)), f(set(20), get(1, 0), alloc(0, 3), store(0, 0, 1), put(0, 0), dec(1), put(0, 15), jump(0))))
	for _, x := range [][2]api.Config{
		{{Percent: math.NaN(), Part: math.NaN()}, {Percent: 100, Part: 0.25}},
		{{Percent: math.Copysign(0, -1), Part: math.Inf(1)}, {Percent: 0.9, Part: 1}},
		{{Percent: math.Inf(1), Part: -3}, {Percent: -1, Part: 1.0 / 64}},
		{{Percent: 1e9, Part: math.Inf(-1)}, {Percent: 10000, Part: 0}},
	} {
		x[0].Ps, x[0].Words, x[1].Ps, x[1].Words = 3, 768, 3, 768
		a, _, _ := machine.New(x[0], script)
		b, _, _ := machine.New(x[1], script)
		for range 5000 {
			ch := choice(r, 3)
			if e, f := a.Step(ch), b.Step(ch); e != f {
				t.Fatalf("28.2: %+v of %+v, %+v of %+v", e, x[0], f, x[1])
			}
		}
		if a.Goal() != b.Goal() || a.Commits() != b.Commits() || a.Cycle() < 2 || !same(a.View(), b.View()) {
			t.Fatalf("28.7: %+v, %+v, %d cycles", x[0], x[1], a.Cycle())
		}
	}
}

// asked asks all that may be asked, and changes what is answered.
func asked(m *machine.Machine) {
	m.Status()
	m.Commit(m.Commits() - 1)
	m.Goal()
	m.Live()
	for g := range 3 {
		m.Credit(g)
		m.Enabled(g)
		m.Room(1 + 100*g)
	}
	clear(m.Freed())
	v := m.View()
	clear(v.Globals)
	for _, x := range v.Gs {
		clear(x.Stack)
	}
	for _, o := range v.Objects {
		clear(o.Slots)
	}
	clear(v.Gs)
	clear(v.Objects)
}

func TestNil(t *testing.T) {
	t.Parallel()
	var none *machine.Machine
	for _, m := range []*machine.Machine{none, {}} {
		if e := m.Step(api.Choice{Tick: 1}); e.Kind != api.EvNone || e.Phase != 0 {
			t.Errorf("28.8: Step of nil: %+v", e)
		}
		c, ok := m.Commit(0)
		a, s := m.Credit(0)
		if ok || c != (api.Commit{}) || a != 0 || s != 0 || m.Status() != 0 || m.Phase() != 0 || m.Cycle() != 0 || m.Commits() != 0 || len(m.Freed()) != 0 {
			t.Error("28.8: nil")
		}
		if m.Goal() != (api.Goal{}) || m.Live() != 0 || m.Room(1) != 0 || m.Steps() != 0 || m.Enabled(0) || !same(m.View(), api.View{}) {
			t.Error("28.8: nil")
		}
	}
}

func TestLikeTheModelAlone(t *testing.T) {
	t.Parallel()
	// One goroutine on one P: the commits are the model's, whatever the collector does meanwhile.
	p := program(3, f(set(300), get(1, 0), alloc(0, 3), store(0, 0, 1), put(0, 0), alloc(2, 7), dec(1), put(0, 15), jump(0)))
	m, _, _ := machine.New(usual(1, 2048), encoded(t, p))
	for range 40000 {
		m.Step(api.Choice{})
	}
	alone, _ := model.New(p)
	for i := range m.Commits() {
		c, _ := m.Commit(i)
		want, _ := alone.Do(0)
		if c.PC != want.PC || c.Op != want.Op || c.G != 0 || c.F != 0 || c.Fault {
			t.Fatalf("T1: commit %d: %+v, of the model %+v", i, c, want)
		}
	}
	if m.Cycle() < 20 || m.Commits() < 20000 {
		t.Fatalf("%d cycles, %d commits", m.Cycle(), m.Commits())
	}
}
