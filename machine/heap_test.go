package machine_test

import (
	"math"
	"testing"

	"treadmill/api"
	"treadmill/class"
)

// endless is a list that grows without end, of objects of n slots.
func endless(n int) api.Program {
	return program(1, f(get(0, 0), alloc(1, n), store(1, n-1, 0), put(0, 1), jump(0)))
}

// garbage is an object of n slots after the other, of which nothing is kept.
func garbage(n int) api.Program {
	return program(1, f(alloc(0, n), jump(0)))
}

func TestListWithoutEnd(t *testing.T) {
	t.Parallel()
	for _, c := range []api.Config{usual(1, 512), off(2, 512), {Ps: 3, Words: 576, Percent: 0, Part: 1}, {Ps: 1, Words: 1024, Percent: 10000, Part: 0}} {
		for _, n := range []int{1, 2, 5, 24, 100, 256} {
			w := watched(t, c, endless(n))
			w.finish(100000, api.OutOf)
			k := class.Of(n)
			if places := (c.Words/64 - 1) / class.Pages(k) * class.Slots(k); len(w.view.Objects) != places || w.m.Cycle() == 0 {
				t.Errorf("28.8: OutOf, where %d objects of %d slots are there, of %d", len(w.view.Objects), n, places)
			}
			if e := w.m.Step(api.Choice{}); e.Kind != api.EvNone || w.m.Status() != api.OutOf {
				t.Errorf("28.1: OutOf stays: %+v", e)
			}
		}
	}
}

func TestListWithoutEndBesideOthers(t *testing.T) {
	t.Parallel()
	// Those that go on without allocating, or with garbage, keep nobody from being told.
	list := f(get(0, 0), alloc(1, 100), store(1, 9, 0), put(0, 1), jump(0))
	for _, other := range [][]api.Inst{f(jump(0)), f(yield(), jump(0)), f(alloc(0, 3), null(0), set(5), dec(3), jump(0)), f(alloc(0, 256), null(0), jump(0)), f(set(50), dec(1), get(0, 0), null(0), jump(0))} {
		for ps := 1; ps <= 3; ps++ {
			for _, part := range []float64{0, 1} {
				c := api.Config{Ps: ps, Words: 1024, Percent: 100, Part: part}
				watched(t, c, program(1, f(spawn(1, 0), spawn(2, 0), spawn(2, 0), spawn(2, 0)), list, other)).finish(40000, api.OutOf)
			}
		}
	}
}

func TestGarbageWithoutEnd(t *testing.T) {
	t.Parallel()
	for _, c := range []api.Config{usual(1, 640), off(2, 640), {Ps: 2, Words: 704, Percent: 0, Part: 1}, {Ps: 1, Words: 640, Percent: math.NaN(), Part: math.NaN()}} {
		for _, n := range []int{1, 24, 200} {
			w := watched(t, c, garbage(n))
			for range 3000 {
				w.round()
			}
			if w.m.Status() != api.Runs || w.m.Cycle() < 2 {
				t.Errorf("Status %d behind %d cycles of %d slots", w.m.Status(), w.m.Cycle(), n)
			}
		}
	}
}

func TestNoPlaceAtAll(t *testing.T) {
	t.Parallel()
	// Of three pages there is no span of four.
	w := watched(t, usual(1, 256), program(0, f(alloc(0, 1), alloc(0, 193), exit())))
	w.finish(1000, api.OutOf)
	if w.m.Commits() != 1 || w.m.Cycle() == 0 {
		t.Fatalf("28.3: an allocation without room is no commit: %d, %d cycles", w.m.Commits(), w.m.Cycle())
	}
	// It is the first instruction of all: a cycle goes by all the same.
	for _, c := range []api.Config{usual(1, 256), off(2, 256)} {
		w = watched(t, c, program(0, f(alloc(0, 256))))
		w.finish(1000, api.OutOf)
		if w.m.Commits() != 0 || w.m.Cycle() == 0 {
			t.Fatalf("28.8: %d commits, %d cycles", w.m.Commits(), w.m.Cycle())
		}
	}
	// There is room in another class, and more pages at the end of a cycle.
	w = watched(t, off(1, 320), program(0, f(set(63), alloc(0, 1), dec(1), null(0), alloc(1, 250), exit())))
	w.finish(1000, api.Done)
	if w.m.Cycle() != 1 {
		t.Fatalf("28.7: %d cycles", w.m.Cycle())
	}
}

func TestRoomOfOtherPs(t *testing.T) {
	t.Parallel()
	// Each of three goroutines gets a span of its own; the last place of all is found by whoever wants it, without a cycle.
	w := watched(t, off(3, 256), program(0, f(spawn(1, 0), spawn(1, 0), jump(3), set(63), alloc(0, 1), dec(4), sleep(1), jump(6)), f(set(63), alloc(0, 1), dec(1), sleep(1), jump(3))))
	for w.m.Commits() < 500 {
		for p := range 3 {
			w.step(api.Choice{P: p, Tick: 1, Victim: 0})
		}
	}
	if w.m.Room(1) != 0 || w.m.Cycle() != 0 || len(w.view.Objects) != 192 {
		t.Fatalf("28.8: Room %d, %d cycles, %d objects", w.m.Room(1), w.m.Cycle(), len(w.view.Objects))
	}
}

func TestRoom(t *testing.T) {
	t.Parallel()
	w := watched(t, off(1, 1024), program(0, f(alloc(0, 5), alloc(1, 6), alloc(2, 1), alloc(3, 256), alloc(4, 48), alloc(5, 255), alloc(6, 200), exit())))
	for _, n := range []int{0, -1, 257, math.MinInt, math.MaxInt} {
		if w.m.Room(n) != 0 {
			t.Errorf("28.8: Room(%d): %d", n, w.m.Room(n))
		}
	}
	for n := 1; n <= 256; n++ { // fifteen pages
		k := class.Of(n)
		if want := 15 / class.Pages(k) * class.Slots(k); w.m.Room(n) != want {
			t.Errorf("28.8: Room(%d): %d, not %d", n, w.m.Room(n), want)
		}
	}
	for _, n := range []int{5, 6, 1, 256, 48, 255} {
		was := w.m.Room(n)
		w.step(api.Choice{})
		if w.m.Room(n) != was-1 {
			t.Errorf("28.8: Room(%d): %d, then %d", n, was, w.m.Room(n))
		}
	}
	if w.m.Room(200) != 0 || w.m.Room(5) != 28 || w.m.Room(48) != 3 || w.m.Room(1) != 191 || w.m.Room(64) != 2 { // two pages are left
		t.Errorf("28.8: %d %d %d %d %d", w.m.Room(200), w.m.Room(5), w.m.Room(48), w.m.Room(1), w.m.Room(64))
	}
}

func TestCollectorOff(t *testing.T) {
	t.Parallel()
	for _, percent := range []float64{math.Inf(1), math.Inf(-1), -1, -math.SmallestNonzeroFloat64} {
		c := api.Config{Ps: 2, Words: 512, Percent: percent, Part: 0.5}
		w := watched(t, c, program(1, f(set(400), alloc(0, 1), dec(1), sleep(1), exit())))
		for range 900 {
			w.round()
		}
		if w.m.Cycle() != 0 || w.m.Live() != 401 || w.m.Goal() != (api.Goal{Trigger: 512, Goal: 512}) {
			t.Errorf("28.7: off by %v: %d cycles, %d words", percent, w.m.Cycle(), w.m.Live())
		}
		watched(t, c, garbage(3)).turn(api.Mark)
	}
	for _, percent := range []float64{math.NaN(), 0, math.Copysign(0, -1), 1, 1e300} {
		for _, part := range []float64{math.NaN(), math.Inf(1), math.Inf(-1), math.Copysign(0, -1), -5, 1e-9} {
			w := watched(t, api.Config{Ps: 1, Words: 512, Percent: percent, Part: part}, garbage(9))
			w.turn(api.Mark)
			w.turn(api.Off)
		}
	}
}

func TestStaysInAGlobal(t *testing.T) {
	t.Parallel()
	w := watched(t, usual(2, 512), program(1, f(alloc(0, 4), store(0, 1, 0), put(0, 0), null(0), alloc(0, 3), jump(4))))
	for range 3000 {
		w.round()
	}
	c, _ := w.m.Commit(0)
	o, ok := objectAt(w.view, c.Value)
	if w.m.Cycle() < 3 || !ok || o.Slots[1] != c.Value || w.names[c.Value] != 1 {
		t.Fatalf("T3: behind %d cycles: %+v", w.m.Cycle(), o)
	}
}

func TestGoneAtTheEnd(t *testing.T) {
	t.Parallel()
	// The ring that is dropped is gone as the cycle ends that begins next; freed in Sweep alone (watched at each step).
	p := program(1, f(alloc(0, 2), alloc(1, 2), store(0, 0, 1), store(1, 0, 0), put(0, 0), null(0), null(1), put(0, 15), set(500), dec(9), alloc(2, 1), jump(10)))
	w := watched(t, usual(1, 512), p)
	for w.commits(api.OpDec) == 0 {
		w.round()
	}
	if len(w.view.Objects) != 2 {
		t.Fatalf("%d objects", len(w.view.Objects))
	}
	w.turn(api.Mark)
	w.turn(api.Off)
	for _, o := range w.view.Objects {
		if len(o.Slots) == 2 {
			t.Fatalf("T3: there still: %+v", o)
		}
	}
}

func TestDeadStacksAreNoRoots(t *testing.T) {
	t.Parallel()
	p := program(0, f(spawn(1, 0), alloc(0, 1), jump(1)), f(alloc(3, 9), exit()))
	w := watched(t, usual(2, 512), p)
	w.turn(api.Mark)
	w.turn(api.Off)
	for _, o := range w.view.Objects {
		if len(o.Slots) == 9 {
			t.Fatalf("T3: only the dead hold it: %+v", o)
		}
	}
	if w.view.Gs[1].Stack[3] == 0 {
		t.Fatal("28.4: the stack of the dead")
	}
}

func TestWideObjects(t *testing.T) {
	t.Parallel()
	// All slots of a wide one name others; each slot is overwritten again and again.
	p := program(1,
		f(alloc(0, 256), put(0, 0), spawn(1, 0), alloc(1, 2), store(0, 0, 1), store(0, 255, 1), store(0, 17, 1), alloc(2, 40), load(3, 0, 17), store(0, 128, 3), jump(3)),
		f(alloc(1, 1), store(0, 99, 1), load(2, 0, 255), store(0, 31, 2), alloc(3, 30), null(3), jump(0)))
	for _, c := range []api.Config{usual(2, 2048), off(1, 1024), {Ps: 3, Words: 1024, Percent: 0, Part: 0}} {
		w := watched(t, c, p)
		for range 4000 {
			w.round()
		}
		if w.m.Cycle() < 3 || w.m.Status() != api.Runs {
			t.Errorf("%d cycles, Status %d", w.m.Cycle(), w.m.Status())
		}
	}
}

// slow is configurations where the collector has as little as may be, so that much goes on beside it, and much, on some Ps.
func slow(words int) []api.Config {
	var all []api.Config
	for ps := 1; ps <= 3; ps++ {
		for _, part := range []float64{0, 0.25, 1} {
			all = append(all, api.Config{Ps: ps, Words: words, Percent: 50, Part: part})
		}
	}
	return all
}

// cycles runs for a while beside its collector.
func cycles(t *testing.T, c api.Config, p api.Program) {
	t.Helper()
	w := watched(t, c, p)
	for range 8000 / c.Ps {
		w.round()
	}
	if w.m.Cycle() < 3 || w.m.Status() != api.Runs {
		t.Errorf("%d cycles, Status %d, of %+v", w.m.Cycle(), w.m.Status(), c)
	}
}

// squeezed runs on three Ps, of which the first one works for the collector alone: in each cycle so many steps of it, then so many of the others, which run two goroutines.
func squeezed(t *testing.T, words int, p api.Program, most int, others ...int) {
	t.Helper()
	w := watched(t, api.Config{Ps: 3, Words: words, Percent: 50, Part: 0.34}, p)
	for _, n := range others {
		for k := range most {
			w.turn(api.Mark)
			if running(w.view, 0) >= 0 {
				w.step(api.Choice{P: 0, Preempt: true})
			}
			for i := 0; i < k && w.m.Phase() == api.Mark; i++ {
				w.step(api.Choice{P: 0})
			}
			for i := 0; i < n && w.m.Phase() == api.Mark; i++ {
				w.step(api.Choice{P: 1})
				w.step(api.Choice{P: 2})
			}
			w.turn(api.Off)
		}
	}
	if w.m.Status() != api.Runs {
		t.Errorf("Status %d", w.m.Status())
	}
}

func TestOverwrittenSlots(t *testing.T) {
	t.Parallel()
	// One goes far into a list, takes what stands in a slot there off it, and holds it on its stack alone for a while; another one only makes garbage, so that there are cycles.
	walk := f(get(0, 0), set(40), jump(4), load(0, 0, 0), dec(3),
		load(1, 0, 1), store(0, 1, 15), null(0), set(60), dec(9), load(2, 1, 0),
		get(0, 0), set(40), jump(15), load(0, 0, 0), dec(14), store(0, 1, 1), null(0), null(1), null(2), jump(0))
	p := program(1,
		f(set(50), get(1, 0), alloc(0, 2), alloc(2, 1), store(0, 0, 1), store(0, 1, 2), put(0, 0), dec(1), null(0), null(1), null(2), spawn(1, 0), spawn(2, 0), block(0)),
		walk, f(alloc(0, 2), set(20), dec(2), jump(0)))
	squeezed(t, 640, p, 9, 70, 110, 150, 190, 230)
}

func TestOverwrittenGlobals(t *testing.T) {
	t.Parallel()
	// What stands in a global stands on a stack alone for a while, then in the global alone, and so on.
	p := program(9,
		f(alloc(0, 2), alloc(1, 1), store(0, 0, 1), put(8, 0), null(0), null(1), spawn(1, 0), spawn(2, 0), spawn(3, 0), spawn(3, 0), spawn(3, 0), spawn(3, 0), block(0)),
		f(get(0, 8), put(8, 15), set(45), dec(3), load(1, 0, 0), null(1), put(8, 0), null(0), set(37), dec(9), jump(0)),
		f(alloc(0, 2), jump(0)),
		f(yield(), jump(0)))
	for _, c := range slow(256) {
		cycles(t, c, p)
	}
	// One that begins while marking goes on takes what stands in a global that is not scanned yet, and holds it alone for a while.
	p = program(9,
		f(alloc(0, 2), alloc(1, 1), store(0, 0, 1), put(8, 0), null(0), null(1), spawn(1, 0), spawn(2, 0), block(0)),
		f(spawn(3, 15), block(1), jump(0)),
		f(alloc(0, 2), set(20), dec(2), jump(0)),
		f(get(0, 8), put(8, 15), set(60), dec(3), load(1, 0, 0), put(8, 0), wake(1)))
	var others []int
	for n := range 20 {
		others = append(others, 7*n+2)
	}
	squeezed(t, 256, p, 1, others...)
}

func TestWorkThatIsLeft(t *testing.T) {
	t.Parallel()
	// Ten globals are two jobs, and each stack is one; what is written is noted; what is found is grey.
	p := program(10,
		f(set(60), get(1, 0), alloc(0, 2), store(0, 0, 1), put(0, 0), dec(1), spawn(1, 0), spawn(1, 0), exit()),
		f(alloc(1, 1), get(0, 0), put(9, 0), put(9, 15), jump(0)))
	w := watched(t, api.Config{Ps: 2, Words: 1024, Percent: 0, Part: 0}, p)
	grey, notes := 0, 0
	for w.m.Cycle() < 4 {
		for i := range 2 {
			e := w.step(api.Choice{P: i, Victim: 1 - i})
			if begins := (api.Event{Kind: api.EvPhase, G: -1, Phase: api.Mark}); e == begins && w.m.Cycle() > 2 && (w.view.Roots != 4 || w.view.Grey != 0 || w.view.Notes != 0) {
				t.Fatalf("28.4: as Mark begins: %d %d %d", w.view.Grey, w.view.Notes, w.view.Roots)
			}
			grey, notes = max(grey, w.view.Grey), max(notes, w.view.Notes)
		}
	}
	if grey == 0 || notes == 0 || notes > 2*api.BarrierCap {
		t.Fatalf("28.4: Grey %d, Notes %d", grey, notes)
	}
}

func TestMovedOn(t *testing.T) {
	t.Parallel()
	// One moves what stands behind a list's first object from global to global, and drops it between.
	p := program(2,
		f(set(60), get(1, 0), alloc(0, 2), store(0, 0, 1), put(0, 0), dec(1), null(0), null(1), spawn(1, 0), spawn(2, 0), block(0)),
		f(get(0, 0), jeq(0, 15, 9), load(1, 0, 0), store(0, 0, 15), put(0, 15), put(1, 1), null(1), null(0), jump(0),
			get(0, 1), put(0, 0), put(1, 15), null(0), jump(0)),
		f(alloc(0, 6), jump(0)))
	for _, c := range slow(1024) {
		cycles(t, c, p)
	}
}

func TestHandedOver(t *testing.T) {
	t.Parallel()
	// What only a goroutine that begins gets, while the one that began it drops it: through spawn alone.
	p := program(0, f(alloc(0, 3), spawn(1, 0), null(0), alloc(1, 20), jump(0)), f(set(30), dec(1), store(0, 0, 0), load(1, 0, 0), eq(0, 1)))
	for ps := 1; ps <= 3; ps++ {
		w := watched(t, api.Config{Ps: ps, Words: 1536, Percent: 0, Part: 0}, p)
		for range 2500 {
			w.round()
		}
		if w.m.Cycle() < 3 {
			t.Errorf("%d cycles", w.m.Cycle())
		}
	}
}

func TestFloatingGarbageIsNoReason(t *testing.T) {
	t.Parallel()
	// There are places for two great objects. What each goroutine drops while the cycle goes on for the other one is garbage all the same: nobody is told that there is no room.
	p := program(0, f(spawn(1, 0), jump(2), alloc(0, 256), null(0), set(9), dec(5), jump(2)), f(alloc(0, 250), set(30), dec(2), null(0), jump(0)))
	for ps := 1; ps <= 2; ps++ {
		w := watched(t, off(ps, 64*9), p)
		for range 3000 {
			w.round()
		}
		if w.m.Status() != api.Runs || w.m.Cycle() < 5 {
			t.Errorf("T6: Status %d, %d cycles", w.m.Status(), w.m.Cycle())
		}
	}
}

// dropped is a list of so many great objects, which is dropped after a while.
func dropped(objects int) api.Program {
	return program(1, f(set(objects), get(1, 0), alloc(0, 256), store(0, 0, 1), put(0, 0), dec(1), null(0), null(1), sleep(1), put(0, 15), alloc(0, 100), jump(10)))
}

func TestFreedAtOnce(t *testing.T) {
	t.Parallel()
	for _, part := range []float64{0, 1} {
		m := watched(t, api.Config{Ps: 1, Words: 1 << 19, Percent: -1, Part: part}, dropped(2000)).m
		gone := 0
		for i := range 40000 {
			m.Step(api.Choice{Tick: i / 20000})
			n := len(m.Freed())
			if gone += n; 256*n > 4096 {
				t.Fatalf("28.2: %d great objects freed at once", n)
			}
		}
		if gone < 2000 {
			t.Errorf("only %d objects freed", gone)
		}
	}
}

func TestScannedAtOnce(t *testing.T) {
	t.Parallel()
	for _, part := range []float64{0, 1} {
		m := watched(t, api.Config{Ps: 1, Words: 1 << 18, Percent: -1, Part: part}, dropped(1200)).m
		scanned, most := 0, 0
		for range 9000 {
			if e := m.Step(api.Choice{}); m.Phase() != api.Mark || e.Kind != api.EvWork {
				continue
			}
			v := m.View()
			was := scanned
			scanned = -v.Grey
			for _, o := range v.Objects {
				if o.Marked && o.Slots[0] != 0 {
					scanned++
				}
			}
			if most = max(most, scanned-was); 256*most > 4096 {
				t.Fatalf("28.2: %d great objects scanned at once", most)
			}
		}
		if most < 1 {
			t.Error("no great object was scanned")
		}
	}
}

func TestGreatHeap(t *testing.T) {
	t.Parallel()
	w := watched(t, api.Config{Ps: 64, Words: api.MaxWords, Percent: 1, Part: 1}, program(32, f(alloc(0, 256), put(31, 0), exit())))
	w.finish(10, api.Done)
	if w.m.Live() != 256 || w.m.Room(1) != api.MaxWords-64*5 {
		t.Fatalf("Live %d, Room %d", w.m.Live(), w.m.Room(1))
	}
}
