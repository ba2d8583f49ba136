package cache_test

import (
	"math"
	"math/rand"
	"slices"
	"testing"

	"treadmill/api"
	"treadmill/cache"
)

// far: numbers that are no P and no size.
var far = []int{-1, -2, -64, 257, 258, 1 << 20, 1 << 32, 1<<32 + 1, math.MaxInt, math.MinInt, math.MaxInt32, math.MinInt32}

// 9.1: New at and beside its bounds, of words and of Ps.
func TestNew(t *testing.T) {
	for _, words := range []int{256, 320, 1024, 1<<24 - 64, 1 << 24} {
		for _, ps := range []int{1, 2, 63, 64} {
			h, err := cache.New(words, ps)
			if h == nil || err != api.OK || h.Arena().Left() != words/64-1 || len(h.Arena().Spans()) != 0 || h.Unswept() != 0 {
				t.Errorf("9.1: New(%d, %d): %d", words, ps, err)
			}
		}
		for _, ps := range append([]int{0, 65, 66}, far...) {
			if h, err := cache.New(words, ps); h != nil || err != api.ErrArg {
				t.Errorf("9.1: New(%d, %d): %v, %d", words, ps, h, err)
			}
		}
	}
	for _, words := range append([]int{0, 1, 64, 192, 255, 300, 1023, 1<<24 - 1, 1<<24 + 1, 1<<24 + 64, 1 << 25}, far[5:]...) {
		for _, ps := range []int{1, 64, 0, 65} {
			if words == 1<<20 {
				continue
			}
			if h, err := cache.New(words, ps); h != nil || err != api.ErrArg {
				t.Errorf("9.1: New(%d, %d): %v, %d", words, ps, h, err)
			}
		}
	}
}

// 9.1: the document's example: three spans of class 0, and no room.
func TestExample(t *testing.T) {
	p := both(t, 256, 1)
	if all := p.fill(0, 1, false); len(all) != 3*64 || all[0] != 64 || all[191] != 255 {
		t.Errorf("9.1: %d objects", len(all))
	}
	if n := len(p.h.Arena().Spans()); n != 3 {
		t.Errorf("9.1: %d spans", n)
	}
}

// 9.1: Arena is always the same, and what is done to it is done to the heap.
func TestArena(t *testing.T) {
	p := both(t, 256, 1)
	a := p.h.Arena()
	addr, _, _ := p.alloc(0, 3, false)
	other, _, _ := p.alloc(0, 3, false)
	if a != p.h.Arena() || a.Len(addr) != 3 || !a.Mark(addr) {
		t.Fatal("9.1: another arena")
	}
	p.l.mark(addr)
	p.begin()
	if gone, ok := p.sweep(); !slices.Equal(gone, []int{other}) || !ok || a != p.h.Arena() {
		t.Errorf("9.2: Sweep: %v, %v", gone, ok)
	}
}

// 9.1: ErrArg of no P, and of n that is none; nothing has changed.
func TestAllocErrors(t *testing.T) {
	for _, ps := range []int{1, 2, 64} {
		p := both(t, 256, ps)
		for _, bad := range append([]int{0}, far...) {
			if addr, gone, err := p.alloc(0, bad, true); addr != 0 || len(gone) != 0 || err != api.ErrArg {
				t.Errorf("9.1: Alloc(0, %d): %d, %v, %d", bad, addr, gone, err)
			}
		}
		for _, bad := range append([]int{ps, ps + 1, 64}, far...) {
			for _, n := range []int{1, 256, 0, 257} {
				if addr, gone, err := p.alloc(bad, n, true); addr != 0 || len(gone) != 0 || err != api.ErrArg {
					t.Errorf("9.1: Alloc(%d, %d): %d, %v, %d", bad, n, addr, gone, err)
				}
			}
			p.flush(bad)
		}
		p.alloc(ps-1, 1, true)
	}
}

// 9.1: objects of each size, till the heap is full; then each P is told so, and of each class that has no page.
func TestSizes(t *testing.T) {
	for n := 1; n <= 256; n++ {
		p := both(t, 1024, 2)
		x := sizes[classOf(n)]
		if all := p.fill(n%2, n, n%3 == 0); len(all) != 15/x.pages*x.slots {
			t.Fatalf("9.1: %d objects of %d slots", len(all), n)
		}
		for _, other := range []int{1, 3, 24, 64, 192, 256} {
			p.alloc(0, other, false)
			p.alloc(1, other, true)
		}
	}
}

// 9.1: each P has a span of each class of its own.
func TestOwn(t *testing.T) {
	p := both(t, 1<<14, 3)
	for ps := range 3 {
		for k, x := range sizes {
			p.alloc(ps, x.size, false)
			if n := len(p.h.Arena().Spans()); n != ps*16+k+1 {
				t.Errorf("9.1: P %d, class %d: %d spans", ps, k, n)
			}
		}
	}
	for ps := range 3 {
		for _, x := range sizes {
			if _, _, err := p.alloc(ps, x.size, false); err != api.OK {
				t.Errorf("9.1: P %d: %d", ps, err)
			}
		}
	}
}

// 9.1: Ps till the heap is full: one has room in its own span where another has none.
func TestFullOfOthers(t *testing.T) {
	p := both(t, 256, 4)
	for ps := range 3 {
		p.alloc(ps, 4, false)
	}
	if addr, gone, err := p.alloc(3, 4, false); addr != 0 || len(gone) != 0 || err != api.ErrFull {
		t.Errorf("9.3: the spans are other Ps': %d, %v, %d", addr, gone, err)
	}
	if addr, _, err := p.alloc(1, 4, false); addr != 132 || err != api.OK {
		t.Errorf("9.1: a P's own span: %d, %d", addr, err)
	}
	p.flush(2)
	if addr, _, err := p.alloc(3, 4, false); addr != 196 || err != api.OK {
		t.Errorf("9.3: a span in common has room: %d, %d", addr, err)
	}
}

// 9.1: a span that is flushed serves again, the last one first, and whoever asks.
func TestFlush(t *testing.T) {
	p := both(t, 1024, 3)
	for ps := range 3 {
		p.alloc(ps, 5, false)
		p.alloc(ps, 256, false)
	}
	for _, ps := range []int{1, 0, 2} {
		p.flush(ps)
		p.flush(ps)
	}
	for _, want := range []int{2, 0, 1} {
		addr, _, _ := p.alloc(0, 6, false)
		if slot, _ := p.h.Arena().Find(addr); slot.Span != []int{0, 2, 4}[want] || slot.Index != 1 {
			t.Errorf("9.1: an object in %v, not in P %d's", slot, want)
		}
		for range 8 {
			p.alloc(0, 6, false)
		}
	}
	p.fill(1, 1, false)
}

// 9.1: unswept spans with room are swept ahead of use; what is full then is put by, and the next one is sought; then those that were full.
func TestSought(t *testing.T) {
	p := both(t, 1<<12, 2)
	a := p.fullSpans(4)
	p.alloc(1, 32, false) // a fifth span, with room
	p.begin()
	for _, addr := range []int{a[3][0], a[3][1], a[2][0], a[1][0], a[1][1]} {
		p.mark(addr)
	}
	// The fifth one first: it had room. Its object is gone.
	addr, gone, _ := p.alloc(0, 32, false)
	if addr != a[4][0] || !slices.Equal(gone, []int{addr}) || p.h.Unswept() != 4 {
		t.Errorf("9.1: Alloc: %d, %v", addr, gone)
	}
	p.alloc(0, 32, false)
	// The fourth one is full still, of the third one an object is gone.
	addr, gone, _ = p.alloc(0, 32, true)
	if addr != a[2][1] || !slices.Equal(gone, []int{addr}) || p.h.Unswept() != 2 {
		t.Errorf("9.1: Alloc: %d, %v", addr, gone)
	}
	// The second one is full still, the first one is empty.
	addr, gone, _ = p.alloc(1, 32, true)
	if addr != a[0][0] || !slices.Equal(gone, a[0]) || p.h.Unswept() != 0 {
		t.Errorf("9.1: Alloc: %d, %v", addr, gone)
	}
	// Then there is none but new ones.
	addr, gone, _ = p.alloc(0, 32, true)
	if slot, _ := p.h.Arena().Find(addr); slot.Span != 5 || len(gone) != 0 {
		t.Errorf("9.1: Alloc: %d, %v", addr, gone)
	}
}

// fullSpans is full spans of two objects of P 0, and of P 1 the address of one behind them.
func (p *pair) fullSpans(n int) [][]int {
	p.t.Helper()
	var all [][]int
	for range n {
		x, _, _ := p.alloc(0, 32, false)
		y, _, _ := p.alloc(0, 32, false)
		all = append(all, []int{x, y})
	}
	p.flush(0)
	return append(all, []int{all[n-1][0] + 64})
}

// 9.1: full spans are swept from the last one on; with ErrFull none is unswept any more.
func TestSweptOnTheWay(t *testing.T) {
	p := both(t, 256, 1)
	all := p.fill(0, 32, true) // three spans of two
	p.begin()
	if addr, gone, err := p.alloc(0, 32, true); addr != 0 || len(gone) != 0 || err != api.ErrFull || p.h.Unswept() != 0 {
		t.Errorf("9.1: all is marked: %d, %v, %d", addr, gone, err)
	}
	p.begin()
	for _, i := range []int{0, 2, 4} {
		p.mark(all[i])
	}
	for _, want := range []int{1, 3, 5} { // the one that was swept last is the last one
		if addr, gone, err := p.alloc(0, 32, true); addr != all[want] || !slices.Equal(gone, []int{addr}) || err != api.OK {
			t.Errorf("9.1: Alloc: %d, %v, %d, not %d", addr, gone, err, all[want])
		}
	}
	p.begin()
	p.mark(all[0])
	p.mark(all[2]) // 1, 3 and 5 are marked as they were allocated
	if addr, gone, err := p.alloc(0, 32, false); addr != all[4] || !slices.Equal(gone, []int{all[4]}) || err != api.OK {
		t.Errorf("9.1: Alloc: %d, %v, %d", addr, gone, err)
	}
	p.alloc(0, 32, false)
}

// 9.1: where TakeFull finds none, and there is no page, empty spans of other classes are dropped, and a new span comes; if there are too few, ErrFull.
func TestDropForNew(t *testing.T) {
	p := both(t, 512, 2) // seven pages
	for range 7 {
		p.alloc(0, 64, false)
	}
	p.begin()
	if addr, gone, err := p.alloc(1, 256, false); addr != 0 || len(gone) != 0 || err != api.ErrFull {
		t.Errorf("9.1: unswept spans are dropped: %d, %v, %d", addr, gone, err)
	}
	for range 3 {
		p.sweep()
	}
	if _, _, err := p.alloc(1, 256, false); err != api.ErrFull || p.h.Arena().Left() != 3 {
		t.Errorf("9.1: three pages are too few: %d, %d left", err, p.h.Arena().Left())
	}
	p.sweep()
	if addr, _, err := p.alloc(1, 256, false); addr != 64 || err != api.OK {
		t.Errorf("9.1: four pages: %d, %d", addr, err)
	}
	if addr, gone, err := p.alloc(0, 64, true); addr != 448 || !slices.Equal(gone, []int{448}) || err != api.OK {
		t.Errorf("9.1: Alloc: %d, %v, %d", addr, gone, err)
	}
}

// 9.1: empty spans are dropped only where there is no page for a new one.
func TestNewAheadOfDrop(t *testing.T) {
	p := both(t, 512, 1)
	for range 3 {
		p.alloc(0, 64, false)
	}
	p.begin()
	p.sweepAll()
	p.alloc(0, 256, false)
	if n := len(p.h.Arena().Spans()); n != 4 || p.h.Arena().Left() != 0 {
		t.Errorf("9.1: %d spans", n)
	}
	p.alloc(0, 1, false)
	if n := len(p.h.Arena().Spans()); n != 2 || p.h.Arena().Left() != 2 {
		t.Errorf("9.1: %d spans", n)
	}
}

// 9.2: Begin takes Ps' spans away, and is ErrState while one is unswept: nothing has changed then.
func TestBegin(t *testing.T) {
	p := both(t, 1024, 2)
	if err := p.begin(); err != api.OK || p.h.Unswept() != 0 {
		t.Errorf("9.2: Begin of no spans: %d", err)
	}
	p.alloc(1, 1, false)
	p.alloc(0, 1, false)
	p.alloc(0, 40, false)
	if err := p.begin(); err != api.OK || p.h.Unswept() != 3 {
		t.Errorf("9.2: Begin: %d, %d unswept", err, p.h.Unswept())
	}
	for range 3 {
		p.alloc(0, 200, true)
		if err := p.begin(); err != api.ErrState {
			t.Errorf("9.2: Begin with %d unswept: %d", p.h.Unswept(), err)
		}
		p.alloc(0, 200, true)
		p.sweep()
	}
	if err := p.begin(); err != api.OK || p.h.Unswept() == 0 {
		t.Errorf("9.2: Begin: %d, %d unswept", err, p.h.Unswept())
	}
	p.sweepAll()
}

// 9.2: Begin lays Ps' spans in common by P, then class: by these Any finds them, and Take the last of them.
func TestBeginOrder(t *testing.T) {
	p := both(t, 1<<12, 4)
	for _, ps := range []int{2, 0, 3, 1} {
		for _, n := range []int{64, 1, 20} {
			p.alloc(ps, n, false)
		}
	}
	p.begin()
	for _, want := range []int{4, 10, 1} { // of class 0, with room: P 0's, P 1's, P 2's
		if gone, _ := p.sweep(); len(gone) != 1 || !p.was(gone[0], want) {
			t.Errorf("9.2: Sweep: %v, not of span %d", gone, want)
		}
	}
	if addr, gone, _ := p.alloc(2, 1, false); len(gone) != 0 || !p.was(addr, 1) {
		t.Errorf("9.1: what is swept is taken ahead: %d, %v", addr, gone)
	}
	p.fill(0, 64, true)
	p.sweepAll()
}

// was is whether that address lies in a span.
func (p *pair) was(addr, id int) bool {
	s := p.l.spans[id]
	return s != nil && addr >= s.first*64 && addr < (s.first+sizes[s.class].pages)*64
}

// 9.2, 9.3: what is marked stays, what is not goes, in all classes; no mark is left.
func TestSweep(t *testing.T) {
	for k, x := range sizes {
		p := both(t, 2048, 2)
		all := p.fill(0, x.size, false)
		p.begin()
		var stay []int
		for i, addr := range all {
			if i%3 == k%3 {
				p.mark(addr)
				stay = append(stay, addr)
			}
		}
		p.sweepAll()
		if got := p.h.Arena().Objects(); !slices.Equal(got, slices.Sorted(slices.Values(stay))) {
			t.Errorf("9.2: class %d: %v stay, not %v", k, got, stay)
		}
		if gone, ok := p.sweep(); len(gone) != 0 || ok {
			t.Errorf("9.2: class %d: Sweep of none: %v, %v", k, gone, ok)
		}
		p.fill(1, x.size, true)
		p.begin()
		p.sweepAll()
		p.begin()
		p.sweepAll()
		if n := p.drop(); n != 31/x.pages || p.h.Arena().Left() != 31 {
			t.Errorf("9.2: class %d: %d dropped", k, n)
		}
	}
}

// 9.2: spans come back to the row with room, or the full one, behind a Sweep.
func TestSweepPuts(t *testing.T) {
	p := both(t, 256, 1)
	all := p.fill(0, 32, true)
	p.begin()
	p.sweepAll()
	if _, gone, err := p.alloc(0, 32, false); len(gone) != 0 || err != api.ErrFull {
		t.Errorf("9.1: all is marked: %v, %d", gone, err)
	}
	p.begin()
	p.mark(all[0])
	p.mark(all[4])
	p.mark(all[5])
	p.sweepAll()
	for _, want := range []int{all[2], all[3], all[1]} {
		if addr, gone, err := p.alloc(0, 32, false); addr != want || len(gone) != 0 || err != api.OK {
			t.Errorf("9.1: Alloc: %d, %v, %d, not %d", addr, gone, err, want)
		}
	}
}

// 9.2: Drop takes spans that are no P's, are swept, and empty; others stay, and serve on.
func TestDrop(t *testing.T) {
	p := both(t, 2048, 2)
	if n := p.drop(); n != 0 {
		t.Errorf("9.2: Drop of no spans: %d", n)
	}
	for _, n := range []int{1, 9, 100, 256} {
		p.alloc(0, n, false)
	}
	p.begin()
	if n := p.drop(); n != 0 {
		t.Errorf("9.2: Drop of unswept spans: %d", n)
	}
	p.sweep()
	p.sweep()
	p.alloc(1, 9, false) // a P's now
	if n := p.drop(); n != 1 || p.h.Unswept() != 2 {
		t.Errorf("9.2: Drop: %d", n)
	}
	p.sweepAll()
	if n := p.drop(); n != 2 {
		t.Errorf("9.2: Drop: %d", n)
	}
	p.begin()
	p.sweepAll()
	addr, _, _ := p.alloc(1, 9, false)
	p.begin()
	p.mark(addr)
	p.sweepAll()
	if n := p.drop(); n != 0 || p.h.Arena().Len(addr) != 9 {
		t.Errorf("9.2: Drop of a span with an object: %d", n)
	}
	p.begin()
	p.sweepAll()
	if n := p.drop(); n != 1 || p.h.Arena().Left() != 31 {
		t.Errorf("9.2: Drop: %d, %d left", n, p.h.Arena().Left())
	}
	p.fill(0, 12, false)
}

// 9.2: what was dropped stands in common no more, though its id comes again.
func TestDroppedIds(t *testing.T) {
	p := both(t, 512, 2)
	for range 7 {
		p.alloc(0, 64, false)
	}
	p.begin()
	p.sweepAll()
	p.drop()
	for range 7 {
		p.alloc(1, 64, false)
	}
	if _, gone, err := p.alloc(0, 64, false); len(gone) != 0 || err != api.ErrFull {
		t.Errorf("9.2: a span that was dropped serves: %v, %d", gone, err)
	}
	p.begin()
	if n := p.h.Unswept(); n != 7 {
		t.Errorf("9.2: %d unswept, not 7", n)
	}
	p.sweepAll()
}

// 9.3: what is freed was neither marked nor allocated since; nothing that stays is handed out again, and its slots stay.
func TestStays(t *testing.T) {
	r := rand.New(rand.NewSource(93))
	p := both(t, 2048, 3)
	a := p.h.Arena()
	live := map[int]int{} // what stands in the last slot of each
	for range 12 {
		for i := range 60 {
			addr, gone, err := p.alloc(r.Intn(3), 1+r.Intn(40), true)
			for _, x := range gone {
				if _, ok := live[x]; ok {
					t.Fatalf("9.3: %d was marked, and is gone", x)
				}
			}
			if err != api.OK {
				break
			}
			if _, ok := live[addr]; ok {
				t.Fatalf("9.3: %d is handed out again", addr)
			}
			a.Store(addr, a.Len(addr)-1, addr+i)
			live[addr] = addr + i
		}
		p.sweepAll()
		for addr, v := range live {
			if got, err := a.Load(addr, a.Len(addr)-1); got != v || err != api.OK {
				t.Fatalf("9.3: at %d: %d, %d, not %d", addr, got, err, v)
			}
		}
		p.begin()
		for addr := range live {
			if r.Intn(2) > 0 || a.Marked(addr) {
				p.mark(addr)
			} else {
				delete(live, addr)
			}
		}
	}
}

// 9.1 to 9.3: rows of all calls, against the table.
func TestRows(t *testing.T) {
	r := rand.New(rand.NewSource(9))
	for _, words := range []int{256, 320, 512, 1024, 2048} {
		for round := range 12 {
			p := both(t, words, 1+r.Intn(4))
			for range 500 {
				p.step(r, round)
			}
			p.sweepAll()
			p.begin()
			p.sweepAll()
			p.drop()
		}
	}
}

// step does some one thing, most often an Alloc, in some rounds of few sizes.
func (p *pair) step(r *rand.Rand, round int) {
	p.t.Helper()
	ps, n := r.Intn(p.l.ps+2)-r.Intn(2), 1+r.Intn(64)
	switch round % 4 {
	case 0:
		n = []int{32, 64}[r.Intn(2)]
	case 1:
		n = 1 + r.Intn(258) - r.Intn(3)
	case 2:
		n = []int{16, 12, 128, 256}[r.Intn(4)]
	}
	switch what := r.Intn(100); {
	case what < 60:
		p.alloc(ps, n, r.Intn(3) == 0)
	case what < 80:
		if all := p.h.Arena().Objects(); len(all) > 0 {
			p.mark(all[r.Intn(len(all))])
		}
	case what < 84:
		p.begin()
	case what < 90:
		p.sweep()
	case what < 93:
		p.sweepAll()
	case what < 97:
		p.flush(ps)
	default:
		p.drop()
	}
}

// 9.3: ErrFull only where no span of that class but another P's has room, and no pages are left for one, nor in spans that could be dropped.
func TestFull(t *testing.T) {
	r := rand.New(rand.NewSource(7))
	for range 40 {
		p := both(t, 256+64*r.Intn(12), 3)
		for range 300 {
			ps, n := r.Intn(3), 1<<r.Intn(9)
			if _, _, err := p.alloc(ps, n, r.Intn(2) > 0); err == api.ErrFull {
				p.full(ps, classOf(n))
			}
			switch r.Intn(12) {
			case 0:
				p.begin()
			case 1, 2, 3:
				p.sweep()
			}
		}
	}
}

// full holds what ErrFull says of a P and a class.
func (p *pair) full(ps, class int) {
	p.t.Helper()
	for id, s := range p.l.spans {
		if s.class == class && (s.p < 0 || s.p == ps) && len(s.objects) < sizes[class].slots {
			p.t.Fatalf("9.3: ErrFull, and span %d has room", id)
		}
		if s.p < 0 && s.swept && len(s.objects) == 0 {
			p.t.Fatalf("9.3: ErrFull, and span %d is empty", id)
		}
	}
	if p.l.pages(sizes[class].pages) != 0 {
		p.t.Fatal("9.3: ErrFull, and there are pages")
	}
}

// 9.2: a P's span is not dropped, though the arena was asked to free all that it had; it serves on.
func TestDropOwn(t *testing.T) {
	for _, again := range []bool{false, true} {
		p := both(t, 256, 2)
		if again { // the P has it out of common
			p.alloc(1, 4, false)
			p.flush(1)
		}
		p.alloc(0, 4, false)
		p.h.Arena().Sweep(0)
		p.l.sweep(0)
		if n := p.drop(); n != 0 {
			t.Errorf("9.2: Drop of a P's span: %d", n)
		}
		if addr, _, err := p.alloc(0, 4, false); addr != 64 || err != api.OK {
			t.Errorf("9.1: Alloc: %d, %d", addr, err)
		}
	}
}

// 9.1: whatever is done to the arena: every call ends, and none panics.
func TestMeddled(t *testing.T) {
	r := rand.New(rand.NewSource(91))
	for range 60 {
		h, _ := cache.New(256+64*r.Intn(20), 2)
		a := h.Arena()
		for range 400 {
			id, n := r.Intn(12), 1+r.Intn(256)
			switch r.Intn(16) {
			case 0:
				a.Span(r.Intn(16))
			case 1:
				a.Drop(id)
			case 2, 3:
				a.Alloc(id, n>>r.Intn(9), r.Intn(2) > 0)
			case 4:
				a.Sweep(id)
			case 5:
				if all := a.Objects(); len(all) > 0 {
					a.Mark(all[r.Intn(len(all))])
				}
			case 6:
				h.Begin()
			case 7:
				h.Flush(r.Intn(2))
			case 8:
				h.Sweep()
			case 9:
				h.Drop()
			default:
				h.Alloc(r.Intn(2), n>>r.Intn(9), r.Intn(2) > 0)
			}
		}
	}
}

// 9.1: the lists are the caller's own.
func TestListsAreNew(t *testing.T) {
	p := both(t, 256, 1)
	p.fill(0, 8, false)
	p.begin()
	gone, _ := p.sweep()
	clear(gone)
	_, gone, _ = p.alloc(0, 8, false)
	clear(gone)
	p.held()
	_, gone, _ = p.alloc(0, 64, false)
	clear(gone)
	p.held()
	p.sweepAll()
}

// 9.1: the greatest heap, full of the greatest objects, and swept.
func TestMost(t *testing.T) {
	h, _ := cache.New(1<<24, 64)
	count := 0
	for ; ; count++ {
		if _, _, err := h.Alloc(count%64, 256, count%2 > 0); err != api.OK {
			break
		}
	}
	if count != (1<<18-1)/4 {
		t.Fatalf("9.1: %d objects", count)
	}
	if err := h.Begin(); err != api.OK || h.Unswept() != count {
		t.Fatalf("9.2: Begin: %d, %d unswept", err, h.Unswept())
	}
	all := 0
	for gone, ok := h.Sweep(); ok; gone, ok = h.Sweep() {
		all += len(gone)
	}
	if all != (count+1)/2 || h.Drop() != all || h.Arena().Left() != 4*all+3 {
		t.Errorf("9.2: %d gone, %d pages left", all, h.Arena().Left())
	}
}

// 9.2: a nil Heap has nothing.
func TestNil(t *testing.T) {
	var none *cache.Heap
	for _, i := range append([]int{0, 1, 63, 64, 256}, far...) {
		if addr, gone, err := none.Alloc(i, 1, true); addr != 0 || len(gone) != 0 || err != api.ErrArg {
			t.Errorf("9.2: of none: Alloc(%d, 1): %d, %v, %d", i, addr, gone, err)
		}
		if addr, gone, err := none.Alloc(0, i, false); addr != 0 || len(gone) != 0 || err != api.ErrArg {
			t.Errorf("9.2: of none: Alloc(0, %d): %d, %v, %d", i, addr, gone, err)
		}
		none.Flush(i)
	}
	if gone, ok := none.Sweep(); len(gone) != 0 || ok {
		t.Errorf("9.2: of none: Sweep: %v, %v", gone, ok)
	}
	if none.Arena() != nil || none.Begin() != api.ErrArg || none.Unswept() != 0 || none.Drop() != 0 {
		t.Error("9.2: of none: something")
	}
}

// 9.1, 9.2: no call panics of a Heap that New did not make.
func TestNotNew(t *testing.T) {
	var h cache.Heap
	for range 2 {
		h.Alloc(0, 1, true)
		h.Flush(0)
		h.Begin()
		h.Sweep()
		h.Unswept()
		h.Drop()
		h.Arena().Objects()
	}
}
