package arena

import (
	"math"
	"math/rand"
	"slices"
	"testing"

	"treadmill/api"
)

// far: numbers that are no id, no slot, no class and no object's address.
var far = []int{-1, -2, -63, -64, -65, 1 << 24, 1<<24 + 64, 1 << 32, 1<<32 + 64, math.MaxInt, math.MaxInt - 63, math.MinInt, math.MinInt + 64, math.MaxInt32, math.MinInt32}

// 7.1: New at and beside its bounds.
func TestNew(t *testing.T) {
	for _, words := range []int{256, 320, 384, 1024, 1<<24 - 64, 1 << 24} {
		a, err := New(words)
		if a == nil || err != api.OK || a.Left() != words/64-1 || a.Live() != 0 || len(a.Spans()) != 0 || len(a.Objects()) != 0 {
			t.Errorf("7.1: New(%d): %d, %d left", words, err, a.Left())
		}
	}
	for _, words := range []int{0, 1, 64, 192, 255, 257, 288, 300, 1023, 1025, 1<<24 - 1, 1<<24 + 1, 1<<24 + 64, 1 << 25, 1 << 32, math.MaxInt, math.MaxInt - 63, -1, -64, -256, -1 << 24, math.MinInt} {
		if a, err := New(words); a != nil || err != api.ErrArg {
			t.Errorf("7.1: New(%d): %v, %d", words, a, err)
		}
	}
}

// 7.1, 7.2: the document's example.
func TestExample(t *testing.T) {
	a, l := both(t, 256)
	if id := makeSpan(t, a, l, 0); id != 0 {
		t.Errorf("7.1: Span(0): %d", id)
	}
	if addr := alloc(t, a, l, 0, 1, false); addr != 64 {
		t.Errorf("7.1: Alloc(0, 1, false): %d", addr)
	}
}

// 7.1: ErrArg of no class, ErrFull where there are no pages; neither takes an id.
func TestSpanErrors(t *testing.T) {
	a, l := both(t, 256) // three pages
	for _, k := range append([]int{16, 17}, far...) {
		if id, err := a.Span(k); id != 0 || err != api.ErrArg {
			t.Errorf("7.1: Span(%d): %d, %d", k, id, err)
		}
	}
	held(t, a, l)
	makeSpan(t, a, l, 15) // four pages: there are none
	makeSpan(t, a, l, 13) // two
	makeSpan(t, a, l, 14) // three: there are none
	makeSpan(t, a, l, 8)  // two: there are none
	if id := makeSpan(t, a, l, 11); id != 1 {
		t.Errorf("7.1: a span that there is none takes an id: %d", id)
	}
	if id, err := a.Span(0); id != 0 || err != api.ErrFull {
		t.Errorf("7.1: without pages: %d, %d", id, err)
	}
	if id, err := a.Span(16); id != 0 || err != api.ErrArg {
		t.Errorf("7.1: without pages, and no class: %d, %d", id, err)
	}
	held(t, a, l)
}

// 7.1: a span has its class's pages, and gives them back.
func TestPages(t *testing.T) {
	for k, x := range rows {
		a, l := both(t, 1024) // fifteen pages
		for want := range 15 / x.pages {
			if id := makeSpan(t, a, l, k); id != want || a.Class(id) != k || a.Full(id) {
				t.Errorf("7.1: Span(%d): %d", k, id)
			}
			if left := 15 - (want+1)*x.pages; a.Left() != left {
				t.Errorf("7.1: Span(%d): %d left, not %d", k, a.Left(), left)
			}
		}
		makeSpan(t, a, l, k)
		for id := range 15 / x.pages {
			drop(t, a, l, id)
		}
		if a.Left() != 15 || len(a.Spans()) != 0 {
			t.Errorf("7.1: spans of class %d dropped: %d left", k, a.Left())
		}
	}
}

// 7.1: the least id that no span has, also behind Drop.
func TestIds(t *testing.T) {
	a, l := both(t, 4096)
	for want := range 8 {
		if id := makeSpan(t, a, l, want); id != want {
			t.Errorf("7.1: id %d, not %d", id, want)
		}
	}
	for _, id := range []int{5, 1, 7, 0} {
		drop(t, a, l, id)
	}
	for _, want := range []int{0, 1, 5, 7, 8} {
		if id := makeSpan(t, a, l, 9); id != want || a.Class(id) != 9 {
			t.Errorf("7.1: id %d, not %d", id, want)
		}
	}
	for id := range 9 {
		drop(t, a, l, id)
	}
	if id := makeSpan(t, a, l, 3); id != 0 {
		t.Errorf("7.1: id %d of the first of all", id)
	}
}

// 7.1: Drop of none, of one with objects, of one whose objects are gone, and again.
func TestDrop(t *testing.T) {
	a, l := both(t, 1024)
	for _, id := range append([]int{0, 1, 2}, far...) {
		if err := a.Drop(id); err != api.ErrNone {
			t.Errorf("7.1: Drop(%d) of no span: %d", id, err)
		}
	}
	id := makeSpan(t, a, l, 10)
	addr := alloc(t, a, l, id, 40, false)
	store(t, a, l, addr, 39, 7)
	if err := a.Drop(id); err != api.ErrState {
		t.Errorf("7.1: Drop of a span with objects: %d", err)
	}
	held(t, a, l)
	seen(t, a, l, addr)
	sweep(t, a, l, id)
	if err := a.Drop(id); err != api.OK || a.Class(id) != -1 || !a.Full(id) || a.Left() != 15 {
		t.Errorf("7.1: Drop of a span without objects: %d, %d left", err, a.Left())
	}
	l.drop(id)
	_, noAlloc := a.Alloc(id, 1, false)
	_, noSweep := a.Sweep(id)
	if noDrop := a.Drop(id); noDrop != api.ErrNone || noAlloc != api.ErrNone || noSweep != api.ErrNone {
		t.Errorf("7.1: of a span that was dropped: %d, %d, %d", noDrop, noAlloc, noSweep)
	}
	seen(t, a, l, addr)
	for _, k := range []int{15, 3, 8} { // others have its pages now
		makeSpan(t, a, l, k)
	}
	seen(t, a, l, addr)
	alloc(t, a, l, 0, 256, true)
	seen(t, a, l, addr)
}

// 7.1: objects of each class and each size, till the span is full.
func TestAlloc(t *testing.T) {
	for k, x := range rows {
		for n := 1; n <= x.size; n++ {
			a, l := both(t, 512)
			id := makeSpan(t, a, l, k)
			for i := range x.slots {
				black := (n+i)%3 == 0
				addr := alloc(t, a, l, id, n, black)
				if addr != 64+i*x.size || a.Len(addr) != n || a.Marked(addr) != black || a.Live() != (i+1)*x.size || a.Full(id) != (i == x.slots-1) {
					t.Fatalf("7.1: class %d, size %d: object %d at %d, %d slots", k, n, i, addr, a.Len(addr))
				}
				if _, err := a.Load(addr, n); err != api.ErrRange {
					t.Fatalf("7.2: class %d, size %d: a slot more", k, n)
				}
			}
			if addr, err := a.Alloc(id, n, false); addr != 0 || err != api.ErrFull {
				t.Fatalf("7.1: class %d, size %d: full: %d, %d", k, n, addr, err)
			}
			held(t, a, l)
		}
	}
}

// 7.1: Alloc's errors, the first one ahead of the others.
func TestAllocErrors(t *testing.T) {
	a, l := both(t, 2048)
	for k, x := range rows {
		id := makeSpan(t, a, l, k)
		for range 2 {
			for _, n := range append([]int{0, x.size + 1, 257, 1 << 20}, far...) {
				if addr, err := a.Alloc(id, n, true); addr != 0 || err != api.ErrArg {
					t.Errorf("7.1: class %d: Alloc of %d slots: %d, %d", k, n, addr, err)
				}
			}
			for !a.Full(id) { // once more when it is full
				alloc(t, a, l, id, x.size, false)
			}
		}
		if addr, err := a.Alloc(id, 1, false); addr != 0 || err != api.ErrFull {
			t.Errorf("7.1: class %d is full: %d, %d", k, addr, err)
		}
	}
	held(t, a, l)
	for _, id := range append([]int{16, 17}, far...) {
		for _, n := range []int{0, 1, 256, 257} {
			if addr, err := a.Alloc(id, n, false); addr != 0 || err != api.ErrNone {
				t.Errorf("7.1: Alloc of %d slots in no span: %d, %d", n, addr, err)
			}
		}
		if gone, err := a.Sweep(id); len(gone) != 0 || err != api.ErrNone {
			t.Errorf("7.2: Sweep(%d) of no span: %v, %d", id, gone, err)
		}
		if a.Class(id) != -1 || !a.Full(id) || a.Drop(id) != api.ErrNone {
			t.Errorf("7.1: span %d: class %d, full %v", id, a.Class(id), a.Full(id))
		}
	}
	held(t, a, l)
}

// mixed is an arena with objects of all classes, some of them gone, each slot with a number of its own.
func mixed(t *testing.T) (*Arena, *table) {
	t.Helper()
	a, l := both(t, 4096)
	number := 1
	for k := range rows {
		id := makeSpan(t, a, l, k)
		for i := 0; !a.Full(id); i++ {
			n := 1 + (i*7+k)%rows[k].size
			addr := alloc(t, a, l, id, n, i%3 == 0)
			for slot := range n {
				store(t, a, l, addr, slot, number)
				number++
			}
		}
		if k%4 != 1 {
			sweep(t, a, l, id)
		}
	}
	return a, l
}

// 7.2: all addresses of an arena and beyond it: objects, between them, free places, free pages, none.
func TestAddresses(t *testing.T) {
	a, l := mixed(t)
	for addr := -130; addr < 4096+130; addr++ {
		seen(t, a, l, addr)
	}
	for _, addr := range far {
		seen(t, a, l, addr)
	}
}

// 7.2: Load and Store where they may not, and what stands stays.
func TestStoreErrors(t *testing.T) {
	a, l := mixed(t)
	for addr := -70; addr < 4096+70; addr++ {
		n := a.Len(addr)
		for _, i := range append([]int{n, n + 1}, far...) {
			want := api.ErrRange
			if n == 0 {
				want = api.ErrNone
			}
			if err := a.Store(addr, i, 12345); err != want {
				t.Fatalf("7.2: Store(%d, %d): %d, not %d", addr, i, err, want)
			}
			if v, err := a.Load(addr, i); v != 0 || err != want {
				t.Fatalf("7.2: Load(%d, %d): %d, %d, not %d", addr, i, v, err, want)
			}
		}
	}
	for _, addr := range far {
		if v, err := a.Load(addr, 0); v != 0 || err != api.ErrNone || a.Store(addr, 0, 1) != api.ErrNone || a.Mark(addr) || a.Marked(addr) {
			t.Errorf("7.2: an object at %d: %d, %d", addr, v, err)
		}
	}
	for addr := range 4096 {
		seen(t, a, l, addr)
	}
	held(t, a, l)
}

// 7.2: any number may be stored, and is loaded.
func TestValues(t *testing.T) {
	a, l := both(t, 256)
	id := makeSpan(t, a, l, 4)
	addr := alloc(t, a, l, id, 6, false)
	for i, v := range []int{math.MaxInt, math.MinInt, -1, 0, 1 << 32, addr} {
		store(t, a, l, addr, i, v)
	}
	for i := range 6 {
		store(t, a, l, addr, i, 0)
	}
}

// 7.1: the slots of a new object are all 0 where others were: in the same place, and in pages that come again.
func TestZero(t *testing.T) {
	for k, x := range rows {
		a, l := both(t, 512)
		for round := range 4 {
			id := makeSpan(t, a, l, (k+round*5)%16)
			size := rows[(k+round*5)%16].size
			for range 3 {
				for i := 0; !a.Full(id); i++ {
					n := size - i%min(2, size)
					addr := alloc(t, a, l, id, n, false) // held against zeros
					for slot := range n {
						store(t, a, l, addr, slot, -1-slot)
					}
				}
				sweep(t, a, l, id)
			}
			drop(t, a, l, id)
		}
		if a.Left() != 7 {
			t.Errorf("7.1: class %d of %d words: %d left", k, x.size, a.Left())
		}
	}
}

// 7.2: Sweep tells the addresses of what is gone, rising; what is marked stays with what it has, and no mark is left.
func TestSweep(t *testing.T) {
	for k, x := range rows {
		a, l := both(t, 1024)
		other := makeSpan(t, a, l, 0)
		id := makeSpan(t, a, l, k)
		stays := alloc(t, a, l, other, 1, false) // of another span: Sweep(id) says nothing of it
		var gone, stay []int
		for i := range x.slots {
			addr := alloc(t, a, l, id, x.size, false)
			store(t, a, l, addr, x.size-1, 100+i)
			if i%3 == 1 {
				mark(t, a, l, addr)
				mark(t, a, l, addr)
				stay = append(stay, addr)
			} else {
				gone = append(gone, addr)
			}
		}
		got, err := a.Sweep(id)
		if l.sweep(id); !slices.Equal(got, gone) || err != api.OK {
			t.Errorf("7.2: class %d: Sweep: %v, %d, not %v", k, got, err, gone)
		}
		if a.Live() != len(stay)*x.size+1 || !slices.Equal(a.Objects(), append([]int{stays}, stay...)) {
			t.Errorf("7.2: class %d: behind Sweep %d live: %v", k, a.Live(), a.Objects())
		}
		held(t, a, l)
		for addr := range 1024 {
			seen(t, a, l, addr)
		}
		if got, err := a.Sweep(id); !slices.Equal(got, stay) || err != api.OK || a.Live() != 1 {
			t.Errorf("7.2: class %d: the next Sweep: %v, %d, not %v", k, got, err, stay)
		}
		if got, err := a.Sweep(id); len(got) != 0 || err != api.OK {
			t.Errorf("7.2: class %d: Sweep of none: %v, %d", k, got, err)
		}
		if a.Drop(id) != api.OK || a.Drop(other) != api.ErrState {
			t.Errorf("7.1: class %d: Drop behind Sweep", k)
		}
	}
}

// 7.2: Objects rise by address, not by span.
func TestObjects(t *testing.T) {
	a, l := both(t, 512) // pages 1 to 7
	for range 3 {
		makeSpan(t, a, l, 7)
	}
	drop(t, a, l, 0)
	makeSpan(t, a, l, 15)                  // span 0 lies behind the others
	makeSpan(t, a, l, 11)                  // span 3 lies ahead of them
	for _, id := range []int{0, 1, 3, 2} { // pages 4 to 7, 2, 1, 3
		alloc(t, a, l, id, 1, false)
	}
	if want := []int{64, 128, 192, 256}; !slices.Equal(a.Objects(), want) {
		t.Errorf("7.2: Objects: %v, not %v", a.Objects(), want)
	}
}

// 7.3: objects never reach into one another, nor beyond the arena, nor into page 0: each slot keeps what was stored there.
func TestApart(t *testing.T) {
	a, l := both(t, 1<<14)
	for k := 0; ; k++ {
		if _, err := a.Span(k % 16); err != api.OK {
			break
		}
		l.span(k % 16)
	}
	number, end := 0, 64
	for _, id := range a.Spans() {
		for !a.Full(id) {
			n := rows[a.Class(id)].size
			addr, _ := a.Alloc(id, n, false)
			l.alloc(id, n, false)
			for i := range n {
				a.Store(addr, i, number)
				number++
			}
		}
	}
	number = 0
	for _, id := range a.Spans() { // as they were stored
		s := l.spans[id]
		for i := range len(s.objects) {
			for slot := range rows[s.class].size {
				if v, err := a.Load(l.addr(id, i), slot); v != number || err != api.OK {
					t.Fatalf("7.3: slot %d at %d: %d, %d, not %d", slot, l.addr(id, i), v, err, number)
				}
				number++
			}
		}
	}
	for _, addr := range a.Objects() {
		slot, _ := a.Find(addr)
		if addr < end {
			t.Fatalf("7.3: an object at %d, one that ends at %d", addr, end)
		}
		end = addr + rows[a.Class(slot.Span)].size
	}
	if end > 1<<14 {
		t.Errorf("7.3: an object ends at %d", end)
	}
}

// 7.1 to 7.3: rows of all calls, against the table.
func TestRows(t *testing.T) {
	r := rand.New(rand.NewSource(1))
	for _, words := range []int{256, 320, 512, 1024, 2048} {
		for range 5 {
			a, l := both(t, words)
			for range 1500 {
				step(t, r, a, l)
			}
			for addr := -66; addr < words+66; addr++ {
				seen(t, a, l, addr)
			}
		}
	}
}

// step does some one thing, mostly to a span or an object that is there.
func step(t *testing.T, r *rand.Rand, a *Arena, l *table) {
	t.Helper()
	id := r.Intn(len(l.spans)+3) - 1
	addr := r.Intn(64*len(l.free)+40) - 20
	if all := l.objects(); len(all) > 0 && r.Intn(8) > 0 {
		addr = all[r.Intn(len(all))]
	}
	switch what := r.Intn(100); {
	case what < 8:
		makeSpan(t, a, l, r.Intn(18)-1)
	case what < 14:
		drop(t, a, l, id)
	case what < 50:
		n := 1
		if s := l.spans[id]; s != nil {
			n = r.Intn(rows[s.class].size+2) + r.Intn(2)
		}
		alloc(t, a, l, id, n, r.Intn(4) == 0)
	case what < 75:
		store(t, a, l, addr, r.Intn(a.Len(addr)+2)-r.Intn(2), r.Intn(1000)-500)
	case what < 92:
		mark(t, a, l, addr)
	default:
		sweep(t, a, l, id)
	}
}

// 7.2: the lists are the caller's own.
func TestListsAreNew(t *testing.T) {
	a, l := both(t, 512)
	for k := range 3 {
		id := makeSpan(t, a, l, k)
		alloc(t, a, l, id, 1, true)
		alloc(t, a, l, id, 1, false)
	}
	objects, spans := a.Objects(), a.Spans()
	gone, _ := a.Sweep(1)
	l.sweep(1)
	for _, list := range [][]int{objects, spans, gone} {
		clear(list)
	}
	held(t, a, l)
	for addr := range 512 {
		seen(t, a, l, addr)
	}
}

// 7.1, 7.2: a nil Arena, and one that New did not make, has no spans, no pages and no objects.
func TestNil(t *testing.T) {
	var none *Arena
	for _, a := range []*Arena{none, {}} {
		for _, i := range append([]int{0, 1, 15, 16, 64, 128}, far...) {
			if id, err := a.Span(i); id != 0 || err != api.ErrArg {
				t.Errorf("7.1: of none: Span(%d): %d, %d", i, id, err)
			}
			if addr, err := a.Alloc(i, 1, true); addr != 0 || err != api.ErrNone || a.Drop(i) != api.ErrNone || a.Class(i) != -1 || !a.Full(i) {
				t.Errorf("7.1: of none: span %d: %d, %d", i, addr, err)
			}
			if slot, ok := a.Find(i); slot != (api.Slot{}) || ok || a.Len(i) != 0 || a.Mark(i) || a.Marked(i) {
				t.Errorf("7.2: of none: Find(%d): %v, %v", i, slot, ok)
			}
			if v, err := a.Load(i, 0); v != 0 || err != api.ErrNone || a.Store(i, 0, 1) != api.ErrNone {
				t.Errorf("7.2: of none: Load(%d, 0): %d, %d", i, v, err)
			}
			if gone, err := a.Sweep(i); len(gone) != 0 || err != api.ErrNone {
				t.Errorf("7.2: of none: Sweep(%d): %v, %d", i, gone, err)
			}
		}
		if len(a.Spans()) != 0 || len(a.Objects()) != 0 || a.Live() != 0 || a.Left() != 0 {
			t.Errorf("7.2: of none: %v, %v, %d, %d", a.Spans(), a.Objects(), a.Live(), a.Left())
		}
	}
}

// 7.1: as many spans as there may be.
func TestMost(t *testing.T) {
	const last = 1<<18 - 2 // the last id
	a, _ := New(1 << 24)
	for want := range last + 1 {
		if id, err := a.Span(11); id != want || err != api.OK {
			t.Fatalf("7.1: Span: %d, %d, not %d", id, err, want)
		}
	}
	if id, err := a.Span(11); id != 0 || err != api.ErrFull || a.Left() != 0 {
		t.Errorf("7.1: no page is left: %d, %d", id, err)
	}
	addr, err := a.Alloc(last, 64, true)
	if addr != 1<<24-64 || err != api.OK || a.Store(addr, 63, 5) != api.OK || a.Live() != 64 || !slices.Equal(a.Objects(), []int{addr}) {
		t.Errorf("7.2: the last object of all: %d, %d", addr, err)
	}
	for _, id := range []int{last - 1, 5} {
		if err := a.Drop(id); err != api.OK {
			t.Errorf("7.1: Drop(%d): %d", id, err)
		}
	}
	for _, want := range []int{5, last - 1} {
		if id, err := a.Span(0); id != want || err != api.OK {
			t.Errorf("7.1: Span: %d, %d, not %d", id, err, want)
		}
	}
}
