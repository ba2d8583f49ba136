package view_test

import (
	"math"
	"math/rand"
	"slices"
	"testing"

	"treadmill/api"
	"treadmill/view"
)

// object is one with what its slots hold.
func object(addr int, slots ...int) api.Object {
	return api.Object{Addr: addr, Slots: slots}
}

// marked is an object that is marked.
func marked(o api.Object) api.Object {
	o.Marked = true
	return o
}

// goroutine is one in a state, with what its stack holds.
func goroutine(state int, stack ...int) api.Goroutine {
	return api.Goroutine{State: state, P: -1, Stack: stack}
}

func TestExample(t *testing.T) {
	v := api.View{Globals: []int{64}, Objects: []api.Object{object(64, 0)}}
	if l := view.Reach(v); !slices.Equal(l, []int{64}) {
		t.Errorf("Reach: %v", l)
	}
}

func TestFind(t *testing.T) {
	v := api.View{Objects: []api.Object{object(90), object(64), object(90, 1), object(0), object(-5), object(64)}}
	for _, x := range []struct{ addr, at int }{{90, 0}, {64, 1}, {0, 3}, {-5, 4}, {65, -1}, {-1, -1}, {math.MaxInt, -1}, {math.MinInt, -1}} {
		if at := view.Find(v, x.addr); at != x.at {
			t.Errorf("29.1: Find(%d): %d, not %d", x.addr, at, x.at)
		}
	}
}

func TestRoots(t *testing.T) {
	v := api.View{
		Globals: []int{0, 70, 64, 70, -3, 0},
		Gs: []api.Goroutine{
			goroutine(api.GDead, 1, 2, 3),
			goroutine(api.GWaits, 0, 99, 64),
			goroutine(api.GRuns, 5, 99, 5),
			goroutine(api.GRunnable),
			goroutine(api.GIdle, 8),
			goroutine(api.GAssists, 7, 2),
			goroutine(77, 6),
		},
	}
	if l := view.Roots(v); !slices.Equal(l, []int{70, 64, -3, 99, 5, 8, 7, 2, 6}) {
		t.Errorf("29.1: Roots: %v", l)
	}
}

func TestReach(t *testing.T) {
	v := api.View{
		Globals: []int{100},
		Gs:      []api.Goroutine{goroutine(api.GRuns, 500, 0), goroutine(api.GDead, 600)},
		Objects: []api.Object{
			object(64, 64), // it names itself alone
			marked(object(100, 0, 300, 7)),
			object(200, 100), // it names one that can be reached
			object(300, 400, 400, 9),
			marked(object(400, 300)), // a ring
			object(500, 500, 7, -2),  // it names itself, too
			object(600, 64),
		},
	}
	for _, x := range []struct {
		name      string
		got, want []int
	}{
		{"Reach", view.Reach(v), []int{100, 300, 400, 500}},
		{"White", view.White(v), []int{300, 500}},
		{"Lost", view.Lost(v), []int{-2, 7, 9}},
		{"Path(400)", view.Path(v, 400), []int{100, 300, 400}},
		{"Path(500)", view.Path(v, 500), []int{500}},
		{"Path(64)", view.Path(v, 64), nil},
		{"Path(200)", view.Path(v, 200), nil},
		{"Path(7)", view.Path(v, 7), nil},
		{"Path(0)", view.Path(v, 0), nil},
		{"Path(8)", view.Path(v, 8), nil},
	} {
		if !slices.Equal(x.got, x.want) {
			t.Errorf("29.1: %s: %v, not %v", x.name, x.got, x.want)
		}
	}
}

func TestLikeAddresses(t *testing.T) {
	// The first one of them stands for its address; an object at 0 is named by nothing.
	v := api.View{
		Globals: []int{80},
		Objects: []api.Object{object(0, 5), object(80, 70, 0), marked(object(80, 90)), marked(object(70, 80)), object(70, 6), object(90)},
	}
	if l := view.Reach(v); !slices.Equal(l, []int{70, 80}) {
		t.Errorf("29.1: Reach: %v", l)
	}
	if l := view.White(v); !slices.Equal(l, []int{80}) {
		t.Errorf("29.1: White: %v", l)
	}
	if l := view.Lost(v); len(l) != 0 {
		t.Errorf("29.1: Lost: %v", l)
	}
	if l := view.Path(v, 90); len(l) != 0 {
		t.Errorf("29.1: Path: %v", l)
	}
	if n := view.Words(v); n != 6 {
		t.Errorf("29.1: Words: %d", n)
	}
}

func TestWords(t *testing.T) {
	for _, x := range []struct{ slots, words int }{{0, 0}, {1, 1}, {2, 2}, {5, 6}, {6, 6}, {7, 8}, {13, 16}, {129, 192}, {193, 256}, {255, 256}, {256, 256}, {257, 0}, {1000, 0}} {
		v := api.View{Objects: []api.Object{{Addr: 64, Slots: make([]int, x.slots)}}}
		if n := view.Words(v); n != x.words {
			t.Errorf("29.1: Words of %d slots: %d, not %d", x.slots, n, x.words)
		}
		v.Objects = append(v.Objects, object(64, 1, 2, 3), object(64, 1, 2, 3))
		if n := view.Words(v); n != x.words+6 {
			t.Errorf("29.1: Words of all: %d, not %d", n, x.words+6)
		}
	}
}

// whole is a view all of whose fields are told.
func whole() api.View {
	return api.View{
		Phase: 1, Cycle: 2, Clock: 3, Globals: []int{64, 0},
		Gs:      []api.Goroutine{{State: 2, P: 1, Stack: []int{1, 2}}, {State: 5, P: -1}},
		Objects: []api.Object{{Addr: 64, Slots: []int{70, 0, 64}, Marked: true}, {Addr: 70}},
		Grey:    4, Notes: 5, Roots: 6,
	}
}

func TestSame(t *testing.T) {
	if !view.Same(whole(), whole()) || !view.Same(api.View{}, api.View{}) || view.Same(whole(), api.View{}) {
		t.Error("29.1: Same")
	}
	for i, turn := range []func(v *api.View){
		func(v *api.View) { v.Phase = 0 },
		func(v *api.View) { v.Cycle++ },
		func(v *api.View) { v.Clock-- },
		func(v *api.View) { v.Grey = 0 },
		func(v *api.View) { v.Notes = 6 },
		func(v *api.View) { v.Roots = -6 },
		func(v *api.View) { v.Globals[1] = 1 },
		func(v *api.View) { v.Globals = v.Globals[:1] },
		func(v *api.View) { v.Globals = append(v.Globals, 0) },
		func(v *api.View) { v.Gs[0].State = 1 },
		func(v *api.View) { v.Gs[1].P = 0 },
		func(v *api.View) { v.Gs[0].Stack[0] = 0 },
		func(v *api.View) { v.Gs[1].Stack = []int{0} },
		func(v *api.View) { v.Gs = v.Gs[:1] },
		func(v *api.View) { slices.Reverse(v.Gs) },
		func(v *api.View) { v.Objects[0].Addr = 65 },
		func(v *api.View) { v.Objects[1].Marked = true },
		func(v *api.View) { v.Objects[0].Slots[1] = 64 },
		func(v *api.View) { v.Objects[0].Slots = nil },
		func(v *api.View) { v.Objects = append(v.Objects, object(80)) },
		func(v *api.View) { slices.Reverse(v.Objects) },
	} {
		v := whole()
		turn(&v)
		if view.Same(v, whole()) || view.Same(whole(), v) || !view.Same(v, v) {
			t.Errorf("29.1: Same, where %d is another one", i)
		}
	}
	full, none := whole(), whole()
	full.Gs[1].Stack, full.Objects[1].Slots = []int{}, []int{}
	if !view.Same(full, none) || !view.Same(api.View{Globals: []int{}, Gs: []api.Goroutine{}, Objects: []api.Object{}}, api.View{}) {
		t.Error("29.1: nil and empty lists are the same")
	}
}

func TestPath(t *testing.T) {
	v := api.View{
		Globals: []int{900, 300, 200},
		Objects: []api.Object{
			object(100, 50),
			object(200, 700, 600),
			object(300, 500),
			object(500, 800, 100),
			object(600, 800),
			object(700, 100),
			object(800, 50, 900),
			object(900, 10),
			object(10, 20),
			object(20, 800),
			object(50),
		},
	}
	for _, want := range [][]int{
		{200}, {900}, {200, 600}, {200, 700}, {300, 500}, {900, 10, 20},
		{200, 600, 800},     // not through 300 and 500
		{200, 700, 100},     // 700 is not the least of what 200 names, but 200 is the least root
		{200, 600, 800, 50}, // 100 is less than 800, but 600 comes first
	} {
		if way := view.Path(v, want[len(want)-1]); !slices.Equal(way, want) {
			t.Errorf("29.1: Path: %v, not %v", way, want)
		}
	}
}

func TestNothingIsChanged(t *testing.T) {
	v, was := whole(), whole()
	for _, l := range [][]int{view.Roots(v), view.Reach(v), view.White(v), view.Lost(v), view.Path(v, 64)} {
		clear(l)
	}
	if !view.Same(v, was) {
		t.Errorf("%+v", v)
	}
}

func TestZeroView(t *testing.T) {
	var v api.View
	if view.Find(v, 0) != -1 || len(view.Roots(v))+len(view.Reach(v))+len(view.White(v))+len(view.Lost(v))+len(view.Path(v, 64)) != 0 || view.Words(v) != 0 {
		t.Error("29.1: of a zero View")
	}
}

// random is a view of few addresses, so that they meet; some stand twice, some are no object's, and they need not rise.
func random(r *rand.Rand) api.View {
	some := func(n int) []int {
		var l []int
		for range n {
			l = append(l, r.Intn(12)-1)
		}
		return l
	}
	v := api.View{Globals: some(r.Intn(3))}
	for range r.Intn(3) {
		v.Gs = append(v.Gs, goroutine(1+r.Intn(5), some(r.Intn(3))...))
	}
	for range r.Intn(12) {
		v.Objects = append(v.Objects, api.Object{Addr: r.Intn(12) - 1, Slots: some(r.Intn(4)), Marked: r.Intn(2) == 0})
	}
	return v
}

// ways is all ways from a root, of objects, at most so long.
func ways(v api.View, most int) [][]int {
	var all [][]int
	var on func(way, l []int)
	on = func(way, l []int) {
		for _, addr := range l {
			i := view.Find(v, addr)
			if addr == 0 || i < 0 || len(way) == most {
				continue
			}
			next := append(slices.Clone(way), addr)
			all = append(all, next)
			on(next, v.Objects[i].Slots)
		}
	}
	on(nil, view.Roots(v))
	return all
}

func TestRandom(t *testing.T) {
	r := rand.New(rand.NewSource(1))
	for range 3000 {
		v := random(r)
		best := map[int][]int{}
		for _, way := range ways(v, 6) {
			last := way[len(way)-1]
			if was := best[last]; was == nil || len(way) < len(was) || len(way) == len(was) && slices.Compare(way, was) < 0 {
				best[last] = way
			}
		}
		long := false
		var reach []int
		for addr, way := range best {
			reach = append(reach, addr)
			long = long || len(way) > 5
		}
		if long { // there may be longer ones
			continue
		}
		slices.Sort(reach)
		if l := view.Reach(v); !slices.Equal(l, reach) {
			t.Fatalf("29.1: Reach: %v, not %v, of %+v", l, reach, v)
		}
		for addr := -2; addr < 13; addr++ {
			if way := view.Path(v, addr); !slices.Equal(way, best[addr]) {
				t.Fatalf("29.1: Path(%d): %v, not %v, of %+v", addr, way, best[addr], v)
			}
		}
		closed(t, v)
	}
}

// closed holds that what is reached names nothing but what is reached, or lost.
func closed(t *testing.T, v api.View) {
	t.Helper()
	named := view.Roots(v)
	reach, lost, white := view.Reach(v), view.Lost(v), []int{}
	for _, addr := range reach {
		o := v.Objects[view.Find(v, addr)]
		named = append(named, o.Slots...)
		if !o.Marked {
			white = append(white, addr)
		}
	}
	if l := view.White(v); !slices.Equal(l, white) {
		t.Fatalf("29.1: White: %v, not %v, of %+v", l, white, v)
	}
	var none []int
	for _, addr := range named {
		_, in := slices.BinarySearch(reach, addr)
		if addr != 0 && !in {
			none = append(none, addr)
		}
	}
	slices.Sort(none)
	if none = slices.Compact(none); !slices.Equal(none, lost) {
		t.Fatalf("29.2: Lost: %v, not %v, of %+v", lost, none, v)
	}
}

func TestLong(t *testing.T) {
	// A list of many, a ring at its end: all is gone along once.
	const n = 200000
	v := api.View{Globals: []int{n}}
	for i := 1; i <= n; i++ {
		v.Objects = append(v.Objects, object(i, i-1, min(i+1, n)))
	}
	if l := view.Reach(v); len(l) != n || l[0] != 1 {
		t.Errorf("29.1: Reach of %d", len(l))
	}
	if way := view.Path(v, 1); len(way) != n || way[0] != n {
		t.Errorf("29.1: Path of %d", len(way))
	}
}
