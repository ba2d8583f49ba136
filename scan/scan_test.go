package scan_test

import (
	"math"
	"math/rand"
	"slices"
	"testing"

	"treadmill/api"
	"treadmill/scan"
)

// chunk: how many slots a Step loads at most, as api and 20.1 tell it.
const chunk = 16

// object is one that is scanned, and what was loaded of it.
type object struct {
	t      *testing.T
	s      *scan.Scan
	addr   int
	slots  []int
	next   int   // the slot that is to be loaded first
	loaded []int // in the Step that goes on
}

func begin(t *testing.T, addr int, slots []int) *object {
	t.Helper()
	o := &object{t: t, s: scan.New(addr, len(slots)), addr: addr, slots: slots}
	o.held()
	return o
}

func (o *object) held() {
	o.t.Helper()
	left := len(o.slots) - o.next
	if got := o.s.Left(); got != left {
		o.t.Fatalf("20.1: Left of %d behind %d: %d", len(o.slots), o.next, got)
	}
	if got := o.s.Done(); got != (left == 0) {
		o.t.Fatalf("20.1: Done of %d behind %d: %v", len(o.slots), o.next, got)
	}
}

func (o *object) load(addr, i int) int {
	if addr != o.addr {
		o.t.Errorf("20.1: load of %d, not of %d", addr, o.addr)
	}
	o.loaded = append(o.loaded, i)
	if i < 0 || i >= len(o.slots) {
		o.t.Errorf("20.1: slot %d is loaded, of %d", i, len(o.slots))
		return 0
	}
	return o.slots[i]
}

// step is a Step: which slots it loads, and what it tells.
func (o *object) step() []int {
	o.t.Helper()
	var slots, want []int
	for i := o.next; i < len(o.slots) && i < o.next+chunk; i++ {
		slots = append(slots, i)
		if o.slots[i] != 0 {
			want = append(want, o.slots[i])
		}
	}
	o.next += len(slots)
	o.loaded = nil
	got := o.s.Step(o.load)
	if !slices.Equal(o.loaded, slots) {
		o.t.Fatalf("20.1: Step of %d slots loads %v, not %v", len(o.slots), o.loaded, slots)
	}
	if !slices.Equal(got, want) {
		o.t.Fatalf("20.1: Step: %v, not %v", got, want)
	}
	o.held()
	return got
}

// whole is all Steps, one behind the other, and some more; it holds All against them.
func (o *object) whole() int {
	o.t.Helper()
	var told []int
	steps := 0
	for !o.s.Done() {
		told = append(told, o.step()...)
		steps++
	}
	for range 2 {
		if got := o.step(); len(got) != 0 {
			o.t.Errorf("20.1: Step behind the end: %v", got)
		}
	}
	var loaded []int
	all := scan.All(len(o.slots), func(i int) int {
		loaded = append(loaded, i)
		return o.slots[i]
	})
	if !slices.Equal(all, told) {
		o.t.Fatalf("20.2: All: %v, not %v", all, told)
	}
	for i := range o.slots {
		if loaded[i] != i {
			o.t.Fatalf("20.1: All loads %v", loaded)
		}
	}
	if len(loaded) != len(o.slots) {
		o.t.Fatalf("20.1: All loads %d slots of %d", len(loaded), len(o.slots))
	}
	return steps
}

// filled is n slots, of which most are not 0.
func filled(n int) []int {
	slots := make([]int, n)
	for i := range slots {
		if i%5 != 3 {
			slots[i] = 64 + i
		}
	}
	return slots
}

// 20.1: the document's example.
func TestExample(t *testing.T) {
	if steps := begin(t, 64, filled(20)).whole(); steps != 2 {
		t.Errorf("20.1: of 20 slots: %d steps", steps)
	}
}

// 20.1: objects of many sizes: each slot is loaded once, chunk by chunk, and none behind the end.
func TestSizes(t *testing.T) {
	if api.Chunk != chunk {
		t.Fatalf("Chunk is %d", api.Chunk)
	}
	for _, x := range []struct{ n, steps int }{{0, 0}, {1, 1}, {15, 1}, {16, 1}, {17, 2}, {31, 2}, {32, 2}, {33, 3}, {255, 16}, {256, 16}, {257, 17}, {1000, 63}} {
		if steps := begin(t, 70+x.n, filled(x.n)).whole(); steps != x.steps {
			t.Errorf("20.1: of %d slots: %d steps, not %d", x.n, steps, x.steps)
		}
	}
}

// 20.1: an object of fewer than 0 slots has none.
func TestBelowZero(t *testing.T) {
	for _, n := range []int{-1, -2, -16, -17, math.MinInt, math.MinInt + 1, math.MinInt32} {
		s := scan.New(64, n)
		no := func() { t.Errorf("20.1: of %d slots one is loaded", n) }
		for range 2 {
			if !s.Done() || s.Left() != 0 {
				t.Errorf("20.1: of %d slots %d are left", n, s.Left())
			}
			if got := s.Step(func(addr, i int) int { no(); return 1 }); len(got) != 0 {
				t.Errorf("20.1: Step of %d slots: %v", n, got)
			}
		}
		if got := scan.All(n, func(i int) int { no(); return 1 }); len(got) != 0 {
			t.Errorf("20.1: All of %d slots: %v", n, got)
		}
	}
}

// 20.1: slots with 0 among them, all 0, none 0, the same number twice, and any number.
func TestSlots(t *testing.T) {
	for _, n := range []int{1, 15, 16, 17, 40} {
		begin(t, 64, make([]int, n)).whole()
		begin(t, 64, slices.Repeat([]int{70}, n)).whole()
		for i := range n {
			slots := make([]int, n)
			slots[i] = 99
			begin(t, 64, slots).whole()
			slots = slices.Repeat([]int{70}, n)
			slots[i] = 0
			begin(t, 64, slots).whole()
		}
	}
	o := begin(t, 64, []int{5, 0, 5, 5, 0, 6, 5})
	if got := o.step(); !slices.Equal(got, []int{5, 5, 5, 6, 5}) {
		t.Errorf("20.1: Step: %v", got)
	}
	begin(t, 64, []int{-1, math.MaxInt, 0, math.MinInt, 1 << 32, 0, -1}).whole()
}

// 20.1: load is handed the address that New was, whatever it is.
func TestAddr(t *testing.T) {
	for _, addr := range []int{0, 1, 64, 1 << 24, 1 << 32, -1, math.MaxInt, math.MinInt} {
		begin(t, addr, filled(20)).whole()
	}
}

// 20.1: a great many slots: the first ones of them.
func TestMany(t *testing.T) {
	s := scan.New(64, math.MaxInt)
	for n := range 10 {
		if s.Done() || s.Left() != math.MaxInt-n*chunk {
			t.Fatalf("20.1: Left: %d", s.Left())
		}
		got := s.Step(func(addr, i int) int { return i })
		if n > 0 && (len(got) != chunk || got[0] != n*chunk) {
			t.Fatalf("20.1: Step: %v", got)
		}
	}
}

// 20.1: what a slot holds is asked as it is loaded, not ahead of that.
func TestWhenLoaded(t *testing.T) {
	o := begin(t, 64, make([]int, 40))
	o.step()
	o.slots[0], o.slots[15], o.slots[16], o.slots[31], o.slots[32] = 1, 2, 3, 4, 5
	if got := o.step(); !slices.Equal(got, []int{3, 4}) {
		t.Errorf("20.1: Step: %v", got)
	}
	o.slots[33] = 6
	if got := o.step(); !slices.Equal(got, []int{5, 6}) {
		t.Errorf("20.1: Step: %v", got)
	}
}

// 20.1: two scans go on beside one another.
func TestBeside(t *testing.T) {
	a, b := begin(t, 64, filled(50)), begin(t, 128, filled(33))
	for range 5 {
		a.step()
		b.step()
	}
}

// 20.2: chunk by chunk is all, of many objects.
func TestAll(t *testing.T) {
	r := rand.New(rand.NewSource(20))
	for range 3000 {
		slots := make([]int, r.Intn(257))
		zeros := r.Intn(10)
		for i := range slots {
			if r.Intn(10) >= zeros {
				slots[i] = r.Intn(1000) - 20
			}
		}
		kept := slices.Clone(slots)
		begin(t, r.Intn(1000), slots).whole()
		if !slices.Equal(slots, kept) {
			t.Fatal("20.1: the slots have changed")
		}
	}
}

// 20.1: what is told is the caller's own.
func TestListsAreNew(t *testing.T) {
	o := begin(t, 64, filled(64))
	first := o.step()
	kept := slices.Clone(first)
	second := o.step()
	clear(second)
	o.step()
	if !slices.Equal(first, kept) {
		t.Errorf("20.1: what was told is %v now", first)
	}
}

// 20.1: of a nil Scan there is nothing, and it is done.
func TestNil(t *testing.T) {
	var none *scan.Scan
	if got := none.Step(func(addr, i int) int { t.Error("20.1: of none a slot is loaded"); return 1 }); len(got) != 0 || !none.Done() || none.Left() != 0 {
		t.Errorf("20.1: of none: %v", got)
	}
}

// 20.1: where there is no load, nothing panics; nor does a Scan that New did not make.
func TestOdd(t *testing.T) {
	var none *scan.Scan
	none.Step(nil)
	scan.New(64, 20).Step(nil)
	scan.New(64, 0).Step(nil)
	scan.All(20, nil)
	scan.All(0, nil)
	scan.All(-1, nil)
	var s scan.Scan
	s.Step(func(addr, i int) int { return i })
	s.Done()
	s.Left()
}
