package audit_test

import (
	"math"
	"math/rand"
	"slices"
	"testing"

	"treadmill/api"
	"treadmill/audit"
	"treadmill/code"
	"treadmill/machine"
)

// goroutine is one in a state, on a P, whose stack holds that at first.
func goroutine(state, p int, stack ...int) api.Goroutine {
	return api.Goroutine{State: state, P: p, Stack: append(stack, make([]int, 16-len(stack))...)}
}

// object is one of so many slots.
func object(addr, n int) api.Object {
	return api.Object{Addr: addr, Slots: make([]int, n)}
}

// good is a view in Mark that breaks no rule, of two Ps.
func good() api.View {
	named := object(70, 2)
	named.Slots[1] = 64
	named.Marked = true
	return api.View{
		Phase:   api.Mark,
		Cycle:   1,
		Clock:   7,
		Globals: []int{70, 0},
		Gs: []api.Goroutine{
			goroutine(api.GRuns, 0, 64),
			goroutine(api.GRuns, 1),
			goroutine(api.GRunnable, -1),
			goroutine(api.GRunnable, 1, 72),
			goroutine(api.GWaits, -1),
			goroutine(api.GAssists, -1),
			goroutine(api.GDead, -1, 9999), // what the dead name is not asked
		},
		Objects: []api.Object{object(64, 5), named, object(72, 256), object(328, 1), object(329, 1), object(math.MaxInt, 3)},
		Grey:    3, Notes: 1, Roots: 2,
	}
}

// breaks holds that a view breaks just these rules.
func breaks(t *testing.T, name string, v api.View, ps int, want ...int) {
	t.Helper()
	if all := audit.All(v, ps); !slices.Equal(all, want) {
		t.Errorf("30.1: %s: %v, not %v", name, all, want)
	}
	first := 0
	if len(want) > 0 {
		first = want[0]
	}
	if n := audit.Check(v, ps); n != first {
		t.Errorf("30.1: %s: Check: %d, not %d", name, n, first)
	}
}

// turned is the good view with something turned.
func turned(turn func(v *api.View)) api.View {
	v := good()
	turn(&v)
	return v
}

func TestExample(t *testing.T) {
	for _, ps := range []int{0, 1, 64, -1, math.MaxInt, math.MinInt} {
		breaks(t, "a zero View", api.View{}, ps)
	}
	breaks(t, "a good one", good(), 2)
}

func TestLost(t *testing.T) {
	breaks(t, "a global", turned(func(v *api.View) { v.Globals[1] = 65 }), 2, 1)
	breaks(t, "a stack", turned(func(v *api.View) { v.Gs[4].Stack[15] = 328 + 2 }), 2, 1)
	breaks(t, "a slot of what can be reached", turned(func(v *api.View) { v.Objects[1].Slots[0] = -64 }), 2, 1)
	breaks(t, "a slot of what can't be reached", turned(func(v *api.View) { v.Objects[4].Slots[0] = -64 }), 2)
}

func TestObjects(t *testing.T) {
	for _, x := range []struct {
		name    string
		objects []api.Object
		broken  bool
	}{
		{"at 64", []api.Object{object(64, 1)}, false},
		{"at 63", []api.Object{object(63, 1)}, true},
		{"at 0", []api.Object{object(0, 1)}, true},
		{"below 0", []api.Object{object(math.MinInt, 1)}, true},
		{"below 0, then far above", []api.Object{object(math.MinInt, 1), object(math.MaxInt, 1)}, true},
		{"far above, then below 0", []api.Object{object(math.MaxInt, 1), object(math.MinInt, 1)}, true},
		{"far above", []api.Object{object(math.MaxInt-1, 1), object(math.MaxInt, 256)}, false},
		{"no slots", []api.Object{object(64, 0)}, true},
		{"256 slots", []api.Object{object(64, 256)}, false},
		{"257 slots", []api.Object{object(64, 257)}, true},
		{"the last one has no slots", []api.Object{object(64, 1), object(65, 0)}, true},
		{"they touch", []api.Object{object(64, 6), object(70, 6), object(76, 1)}, false},
		{"they touch by their class", []api.Object{object(64, 5), object(70, 200), object(326, 1)}, false},
		{"one reaches into the next by its slots", []api.Object{object(64, 6), object(69, 1)}, true},
		{"one reaches into the next by its class", []api.Object{object(64, 5), object(69, 1)}, true},
		{"the last two do", []api.Object{object(64, 1), object(70, 200), object(325, 1)}, true},
		{"like ones", []api.Object{object(64, 1), object(64, 1)}, true},
		{"they fall", []api.Object{object(64, 1), object(90, 1), object(80, 1)}, true},
	} {
		var want []int
		if x.broken {
			want = []int{2}
		}
		breaks(t, x.name, api.View{Objects: x.objects}, 1, want...)
	}
}

func TestTwice(t *testing.T) {
	breaks(t, "two on 1", turned(func(v *api.View) { v.Gs[0].P = 1 }), 2, 3)
	breaks(t, "two on -1", turned(func(v *api.View) { v.Gs[0].P, v.Gs[1].P = -1, -1 }), 2, 3, 4)
	breaks(t, "two on 9", turned(func(v *api.View) { v.Gs[0].P, v.Gs[1].P = 9, 9 }), 2, 3, 4)
	breaks(t, "the first and the last", turned(func(v *api.View) { v.Gs = append(v.Gs, goroutine(api.GRuns, 0)) }), 2, 3)
	breaks(t, "one that runs, one in the queue", turned(func(v *api.View) { v.Gs[2].P, v.Gs[3].P = 0, 0 }), 2)
}

func TestPlaces(t *testing.T) {
	for _, x := range []struct {
		state, p, ps int
		broken       bool
	}{
		{api.GRuns, -1, 3, true}, {api.GRuns, 0, 3, false}, {api.GRuns, 2, 3, false}, {api.GRuns, 3, 3, true}, {api.GRuns, 0, 0, true}, {api.GRuns, -1, -5, true}, {api.GRuns, math.MaxInt, 64, true}, {api.GRuns, math.MinInt, 64, true}, {api.GRuns, 0, math.MinInt, true}, {api.GRuns, 63, 64, false},
		{api.GRunnable, -2, 3, true}, {api.GRunnable, -1, 3, false}, {api.GRunnable, 0, 3, false}, {api.GRunnable, 2, 3, false}, {api.GRunnable, 3, 3, true}, {api.GRunnable, -1, 0, false}, {api.GRunnable, 0, 0, true}, {api.GRunnable, -1, -1, true}, {api.GRunnable, -1, math.MinInt, true},
		{api.GWaits, -1, 3, false}, {api.GWaits, 0, 3, true}, {api.GWaits, -2, 3, true}, {api.GAssists, -1, 3, false}, {api.GAssists, 1, 3, true}, {api.GDead, -1, 3, false}, {api.GDead, 0, 3, true}, {api.GIdle, -1, 0, false}, {api.GIdle, 0, 3, true}, {6, -1, 3, false}, {6, 0, 3, true}, {-1, 0, 3, true},
	} {
		var want []int
		if x.broken {
			want = []int{4}
		}
		breaks(t, "one", api.View{Gs: []api.Goroutine{goroutine(x.state, x.p)}}, x.ps, want...)
		breaks(t, "the second one", api.View{Gs: []api.Goroutine{goroutine(api.GDead, -1), goroutine(x.state, x.p)}}, x.ps, want...)
	}
}

func TestWork(t *testing.T) {
	fields := []func(v *api.View) *int{
		func(v *api.View) *int { return &v.Grey },
		func(v *api.View) *int { return &v.Notes },
		func(v *api.View) *int { return &v.Roots },
	}
	for _, field := range fields {
		for _, phase := range []int{api.Off, api.Mark, api.Term, api.Sweep} {
			for _, n := range []int{math.MinInt, -1, 0, 1, math.MaxInt} {
				v := api.View{Phase: phase}
				*field(&v) = n
				if n == 0 || n > 0 && phase == api.Mark {
					breaks(t, "work", v, 1)
				} else {
					breaks(t, "work", v, 1, 5)
				}
			}
		}
	}
}

func TestWhite(t *testing.T) {
	for _, phase := range []int{api.Mark, api.Term, api.Sweep} {
		v := good()
		v.Phase, v.Grey, v.Notes, v.Roots = phase, 0, 0, 0
		if phase == api.Term {
			breaks(t, "white", v, 2, 6)
		} else {
			breaks(t, "white", v, 2)
		}
		for i := range 3 { // all that can be reached
			v.Objects[i].Marked = true
		}
		breaks(t, "all marked", v, 2)
	}
}

func TestNumbers(t *testing.T) {
	for _, phase := range []int{-1, 4, math.MaxInt, math.MinInt} {
		breaks(t, "a phase", api.View{Phase: phase}, 1, 7)
	}
	breaks(t, "Cycle", api.View{Cycle: -1}, 1, 7)
	breaks(t, "Clock", api.View{Clock: -1}, 1, 7)
	breaks(t, "both", api.View{Cycle: math.MinInt, Clock: math.MinInt64}, 1, 7)
	breaks(t, "great ones", api.View{Cycle: math.MaxInt, Clock: math.MaxInt64}, 1)
	for _, n := range []int{0, 15, 17} {
		for i := range 7 {
			breaks(t, "a stack", turned(func(v *api.View) { v.Gs[i].Stack = make([]int, n) }), 2, 7)
		}
	}
}

func TestMarked(t *testing.T) {
	for i := range 6 {
		v := good()
		v.Phase, v.Grey, v.Notes, v.Roots = api.Off, 0, 0, 0
		v.Objects[1].Marked = false
		breaks(t, "Off", v, 2)
		v.Objects[i].Marked = true
		breaks(t, "Off", v, 2, 8)
		v.Phase = api.Sweep
		breaks(t, "Sweep", v, 2)
	}
}

func TestSeveral(t *testing.T) {
	v := api.View{
		Phase:   api.Term,
		Cycle:   -1,
		Globals: []int{64, 99},
		Gs:      []api.Goroutine{goroutine(api.GRuns, 5), goroutine(api.GRuns, 5)},
		Objects: []api.Object{object(64, 3), object(66, 1)},
		Notes:   1,
	}
	breaks(t, "all but one", v, 2, 1, 2, 3, 4, 5, 6, 7)
	v.Phase = api.Off
	v.Objects[1].Marked = true
	breaks(t, "all but one", v, 2, 1, 2, 3, 4, 5, 7, 8)
	v.Globals = nil
	breaks(t, "all but two", v, 6, 2, 3, 5, 7, 8)
}

func TestText(t *testing.T) {
	for code, want := range []string{"", "lost", "objects", "twice", "places", "work", "white", "numbers", "marked", ""} {
		if s := audit.Text(code); s != want {
			t.Errorf("30.1: Text(%d): %q", code, s)
		}
	}
	for _, code := range []int{-1, -8, math.MaxInt, math.MinInt} {
		if s := audit.Text(code); s != "" {
			t.Errorf("30.1: Text(%d): %q", code, s)
		}
	}
}

func TestNothingIsChanged(t *testing.T) {
	v, was := good(), good()
	clear(audit.All(v, 0))
	for i := range v.Objects {
		if !slices.Equal(v.Objects[i].Slots, was.Objects[i].Slots) {
			t.Errorf("%+v", v.Objects[i])
		}
	}
	if !slices.Equal(v.Globals, was.Globals) {
		t.Errorf("%v", v.Globals)
	}
}

func TestMachine(t *testing.T) {
	// Lists that are dropped and moved, goroutines that begin and end, wait and sleep: all along the run.
	p := api.Program{Globals: 2, Funcs: [][]api.Inst{
		{{Op: api.OpSpawn, A: 1}, {Op: api.OpSpawn, A: 2}, {Op: api.OpSpawn, A: 3}, {Op: api.OpSleep, C: 200}, {Op: api.OpJump, A: 2}},
		{{Op: api.OpSet, B: 40}, {Op: api.OpGet, A: 1}, {Op: api.OpAlloc, B: 4}, {Op: api.OpStore, B: 2, C: 1}, {Op: api.OpPut}, {Op: api.OpDec, A: 1}, {Op: api.OpPut, A: 1}, {Op: api.OpPut, B: 15}, {Op: api.OpWake, A: 3}, {Op: api.OpJump}},
		{{Op: api.OpBlock, A: 3}, {Op: api.OpGet, B: 1}, {Op: api.OpLoad, A: 1, C: 2}, {Op: api.OpStore, B: 2, C: 15}, {Op: api.OpPut, B: 1}, {Op: api.OpJump}},
		{{Op: api.OpAlloc, A: 5, B: 30}, {Op: api.OpAlloc, A: 6, B: 2}, {Op: api.OpStore, A: 5, B: 30, C: 6}},
	}}
	script, err := code.Encode(p)
	if err != api.OK {
		t.Fatal("a program that may not be")
	}
	for seed := range 6 {
		r := rand.New(rand.NewSource(int64(seed)))
		c := api.Config{Ps: 1 + r.Intn(4), Words: 1024, Percent: 50 * r.Float64(), Part: r.Float64()}
		m, _, _ := machine.New(c, script)
		phases := map[int]int{}
		for range 5000 {
			v := m.View()
			phases[v.Phase]++
			if all := audit.All(v, c.Ps); len(all) != 0 {
				t.Fatalf("30.2: %v of %+v", all, v)
			}
			m.Step(api.Choice{P: r.Intn(c.Ps), Victim: r.Intn(c.Ps), Preempt: r.Intn(30) == 0, Tick: r.Intn(3)})
		}
		if len(phases) != 4 || m.Cycle() < 3 {
			t.Errorf("phases %v, %d cycles", phases, m.Cycle())
		}
	}
}
