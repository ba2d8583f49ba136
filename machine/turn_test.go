package machine_test

import (
	"math"
	"testing"

	"treadmill/api"
)

func TestQuantum(t *testing.T) {
	t.Parallel()
	// Each of some that never yield has its turn, on each P.
	for _, ps := range []int{1, 2, 3} {
		w := watched(t, usual(ps, 256), program(0, f(set(6), spawn(1, 0), dec(1), jump(3)), f(jump(0))))
		for range 2000 {
			w.round()
		}
		by := w.byGoroutine()
		for g := range 8 {
			if by[g] < 100 {
				t.Errorf("28.7: %d commits of %d with %d Ps", by[g], g, ps)
			}
		}
	}
	// One that is alone goes on.
	w := watched(t, usual(1, 256), program(0, f(jump(0))))
	for range 500 {
		if e := w.step(api.Choice{}); e.Kind != api.EvCommit {
			t.Fatalf("28.7: %+v", e)
		}
	}
}

func TestStopIsShort(t *testing.T) {
	t.Parallel()
	// Whoever is picked: one P alone ends the stop, also if it runs nobody, or is preempted each time.
	for _, p := range []int{0, 1, 2} {
		w := watched(t, usual(3, 512), program(0, f(spawn(1, 0), alloc(0, 3), jump(1)), f(alloc(0, 2), jump(0))))
		w.turn(api.Mark)
		for w.m.Phase() == api.Mark {
			w.step(api.Choice{P: (p + w.m.Steps()) % 3})
		}
		for n := 0; w.m.Phase() == api.Term; n++ {
			if w.step(api.Choice{P: p, Preempt: true}); n > 16 {
				t.Fatal("28.5: more than 16 steps")
			}
		}
		if w.m.Phase() != api.Sweep {
			t.Fatalf("28.5: phase %d", w.m.Phase())
		}
	}
}

func TestCreditOfGreatObjects(t *testing.T) {
	t.Parallel()
	// Who allocates more than it may ahead of scanning assists; all goes on.
	list := f(set(250), get(1, 0), alloc(0, 4), store(0, 0, 1), put(0, 0), dec(1), null(0), null(1), spawn(1, 0), alloc(2, 100), jump(9))
	for _, c := range []api.Config{
		{Ps: 1, Words: 4096, Percent: 50, Part: 0},
		{Ps: 2, Words: 4096, Percent: 10, Part: 0.25},
		{Ps: 3, Words: 4096, Percent: 0, Part: 0},
	} {
		w := watched(t, c, program(1, list, f(alloc(0, 200), alloc(1, 7), jump(0))))
		assists := 0
		for range 2000 {
			for p := range c.Ps {
				was := w.scanned
				e := w.step(api.Choice{P: p, Victim: (p + 1) % c.Ps})
				if e.Kind != api.EvWork || e.G < 0 {
					continue
				}
				assists++
				if _, s := w.m.Credit(e.G); s == was[e.G] {
					t.Fatalf("28.7: work for %d, and nothing is scanned for it", e.G)
				}
			}
		}
		if assists == 0 || w.m.Cycle() < 3 || w.m.Status() != api.Runs {
			t.Errorf("T6: %d times work for one that assists, %d cycles, Status %d", assists, w.m.Cycle(), w.m.Status())
		}
	}
}

func TestCreditOfNone(t *testing.T) {
	t.Parallel()
	w := watched(t, usual(1, 512), garbage(5))
	w.turn(api.Mark)
	for _, g := range []int{-1, 1, math.MaxInt, math.MinInt} {
		if a, s := w.m.Credit(g); a != 0 || s != 0 {
			t.Errorf("28.7: Credit(%d): %d %d", g, a, s)
		}
	}
}

func TestEnabledWhileThereIsWork(t *testing.T) {
	t.Parallel()
	// Whoever is idle works for the collector while there is a cycle, and rests when it ended.
	w := watched(t, usual(4, 1024), program(0, f(alloc(0, 3), jump(0))))
	for range 4000 {
		if off := w.m.Phase() == api.Off; !off && !w.m.Enabled(3) {
			t.Fatalf("28.8: P 3 in phase %d", w.m.Phase())
		}
		w.round()
	}
}

func TestBeginsInTime(t *testing.T) {
	t.Parallel()
	// Steps of one P alone, of all in turn, with a P that is idle, with cycles that follow at once on one another: watch counts.
	for _, percent := range []float64{0, 20, 100} {
		for _, some := range [][]int{{0}, {1, 0}, {0, 0, 0, 1, 2}, {2, 1, 0}} {
			c := api.Config{Ps: 3, Words: 1024, Percent: percent, Part: 0.5}
			w := watched(t, c, program(1, f(set(120), get(1, 0), alloc(0, 2), store(0, 0, 1), put(0, 0), dec(1), alloc(2, 2), jump(6))))
			for i := range 6000 {
				w.step(api.Choice{P: some[i%len(some)], Victim: i % 3})
			}
			if w.m.Cycle() < 2 {
				t.Errorf("28.7: %d cycles", w.m.Cycle())
			}
		}
	}
}

// bounds runs by rounds, and holds 28.9's bounds of those that never wait: how many rounds go by from commit to commit, and from a cycle's beginning to its end.
func bounds(t *testing.T, c api.Config, p api.Program, rounds int) {
	t.Helper()
	w := watched(t, c, p)
	m, last, begun, commits := w.m, []int{0}, 0, 0
	for round := 0; round < rounds && m.Status() == api.Runs; round++ {
		for i := range c.Ps {
			e := m.Step(api.Choice{P: i, Victim: (i + 1) % c.Ps})
			switch e.Kind {
			case api.EvPhase:
				if e.Phase == api.Mark {
					begun = round
				}
			case api.EvCommit:
				last[e.G] = round
				x, _ := m.Commit(commits)
				if commits++; x.Op == api.OpSpawn && !x.Fault {
					last = append(last, round)
				}
				if x.Op == api.OpExit || x.Fault {
					last[x.G] = math.MaxInt
				}
			}
		}
		b := 16 * (c.Words + 16*(len(last)+c.Ps) + 256)
		for g, at := range last {
			if round-at > b {
				t.Fatalf("28.9: %d has no commit for %d rounds, of %+v", g, b, c)
			}
		}
		if m.Phase() != api.Off && round-begun > b {
			t.Fatalf("28.9: a cycle of %d rounds, of %+v", b, c)
		}
	}
}

func TestRounds(t *testing.T) {
	t.Parallel()
	great := f(alloc(0, 256), null(0), jump(0))
	small := f(alloc(0, 3), jump(0))
	loop := f(move(0, 1), jump(0))
	stores := f(alloc(0, 2), store(0, 0, 0), put(0, 0), store(0, 1, 0), jump(1))
	list := f(set(100), get(1, 0), alloc(0, 2), store(0, 0, 1), put(0, 0), dec(1), put(0, 15), jump(0))
	yields := f(yield(), jump(0))
	for _, funcs := range [][][]api.Inst{{great}, {great, loop}, {great, small, loop, stores}, {small, yields}, {list, loop}, {stores}} {
		first := f(set(60))
		for i := range funcs {
			first = append(first, spawn(i+1, 0))
		}
		p := program(2, append([][]api.Inst{append(first, dec(1))}, funcs...)...)
		for _, words := range []int{64 * 6, 1024} {
			for _, part := range []float64{0, 1} {
				for _, percent := range []float64{0, 100, math.Inf(1)} {
					bounds(t, api.Config{Ps: 1, Words: words, Percent: percent, Part: part}, p, 60000)
					bounds(t, api.Config{Ps: 3, Words: words, Percent: percent, Part: part}, p, 20000)
				}
			}
		}
	}
}

func TestNobodyIsKeptFromTheirTurn(t *testing.T) {
	t.Parallel()
	// Two that wake one another do not keep those in the common queue from running.
	p := program(0, f(spawn(1, 0), spawn(2, 0), spawn(3, 0), spawn(3, 0), spawn(3, 0), jump(5)),
		f(wake(1), block(0), jump(0)), f(wake(0), block(1), jump(0)), f(jump(0)))
	w := watched(t, usual(1, 256), p)
	for range 3000 {
		w.round()
	}
	by := w.byGoroutine()
	for g := range 6 {
		if by[g] < 50 {
			t.Errorf("T4: %d commits of %d", by[g], g)
		}
	}
}
