package cache_test

import (
	"maps"
	"slices"
	"testing"

	"treadmill/api"
	"treadmill/cache"
)

// sizes: the classes, and how many pages and places a span of each has, by hand.
var sizes = []struct{ size, pages, slots int }{
	{1, 1, 64}, {2, 1, 32}, {3, 1, 21}, {4, 1, 16}, {6, 1, 10}, {8, 1, 8}, {12, 1, 5}, {16, 1, 4},
	{24, 2, 5}, {32, 1, 2}, {48, 3, 4}, {64, 1, 1}, {96, 3, 2}, {128, 2, 1}, {192, 3, 1}, {256, 4, 1},
}

// classOf is the class of n slots; -1 of none.
func classOf(n int) int {
	for k, x := range sizes {
		if n >= 1 && n <= x.size {
			return k
		}
	}
	return -1
}

// span is one as the table has it: of a P, or in common (P -1), the places of its objects and their marks.
type span struct {
	first, class int
	p            int
	swept, full  bool // in common: its row
	objects      map[int]bool
}

// table is a heap as 9.1 and 9.2 tell it, all of it gone through each time.
type table struct {
	ps     int
	free   []bool // pages
	spans  map[int]*span
	common []int // ids in the order of Put: all rows in one
}

func newTable(words, ps int) *table {
	l := &table{ps: ps, free: make([]bool, words/64), spans: map[int]*span{}}
	for i := 1; i < len(l.free); i++ {
		l.free[i] = true
	}
	return l
}

// pages is the first of the least run of at least k free pages; 0, if there is none.
func (l *table) pages(k int) int {
	best, most := 0, len(l.free)
	for i := 1; i < len(l.free); i++ {
		n := 0
		for i+n < len(l.free) && l.free[i+n] {
			n++
		}
		if !l.free[i-1] && n >= k && n < most {
			best, most = i, n
		}
		i += n
	}
	return best
}

// full is whether a span has no place left.
func (l *table) full(id int) bool {
	return len(l.spans[id].objects) == sizes[l.spans[id].class].slots
}

// put lays a span in common, swept.
func (l *table) put(id int) {
	l.take(id)
	s := l.spans[id]
	s.p, s.swept, s.full = -1, true, l.full(id)
	l.common = append(l.common, id)
}

// take takes a span out of common.
func (l *table) take(id int) {
	l.common = slices.DeleteFunc(l.common, func(x int) bool { return x == id })
}

// last is the last span of a row; -1 of none.
func (l *table) last(class int, swept, full bool) int {
	for _, id := range slices.Backward(l.common) {
		if s := l.spans[id]; s.class == class && s.swept == swept && s.full == full {
			return id
		}
	}
	return -1
}

// sweep frees what is not marked: the addresses, rising.
func (l *table) sweep(id int) []int {
	var gone []int
	s := l.spans[id]
	for i := range sizes[s.class].slots {
		marked, ok := s.objects[i]
		switch {
		case ok && marked:
			s.objects[i] = false
		case ok:
			delete(s.objects, i)
			gone = append(gone, l.addr(id, i))
		}
	}
	return gone
}

func (l *table) addr(id, i int) int {
	return l.spans[id].first*64 + i*sizes[l.spans[id].class].size
}

// of is a P's span of a class; -1 of none.
func (l *table) of(p, class int) int {
	for id, s := range l.spans {
		if s.p == p && s.class == class {
			return id
		}
	}
	return -1
}

// make makes a span, no P's yet; -1, if there are no pages.
func (l *table) make(class int) int {
	first := l.pages(sizes[class].pages)
	if first == 0 {
		return -1
	}
	id := 0
	for l.spans[id] != nil {
		id++
	}
	for i := range sizes[class].pages {
		l.free[first+i] = false
	}
	l.spans[id] = &span{first: first, class: class, p: -1, objects: map[int]bool{}}
	return id
}

// seek is a span of a class with room, taken out of common or new (-1: there is none), and what was swept on the way.
func (l *table) seek(class int) (int, []int) {
	var gone []int
	for _, row := range []struct{ swept, full bool }{{true, false}, {false, false}, {false, true}} {
		for id := l.last(class, row.swept, row.full); id >= 0; id = l.last(class, row.swept, row.full) {
			if !row.swept {
				gone = append(gone, l.sweep(id)...)
			}
			if !l.full(id) {
				l.take(id)
				return id, gone
			}
			l.put(id)
		}
	}
	id := l.make(class)
	if id < 0 {
		l.drop()
		id = l.make(class)
	}
	return id, gone
}

func (l *table) alloc(p, n int, black bool) (int, []int, int) {
	class := classOf(n)
	if p < 0 || p >= l.ps || class < 0 {
		return 0, nil, api.ErrArg
	}
	var gone []int
	id := l.of(p, class)
	if id >= 0 && l.full(id) {
		l.put(id)
		id = -1
	}
	if id < 0 {
		if id, gone = l.seek(class); id < 0 {
			return 0, gone, api.ErrFull
		}
		l.spans[id].p = p
	}
	i := 0
	for {
		if _, used := l.spans[id].objects[i]; !used {
			break
		}
		i++
	}
	l.spans[id].objects[i] = black
	return l.addr(id, i), gone, api.OK
}

func (l *table) flush(p int) {
	for class := range sizes {
		if id := l.of(p, class); p >= 0 && id >= 0 {
			l.put(id)
		}
	}
}

func (l *table) begin() int {
	if l.unswept() > 0 {
		return api.ErrState
	}
	for p := range l.ps {
		l.flush(p)
	}
	for _, s := range l.spans {
		s.swept = false
	}
	return api.OK
}

// any sweeps the first unswept one, by class, with room ahead of full.
func (l *table) any() ([]int, bool) {
	for class := range sizes {
		for _, full := range []bool{false, true} {
			for _, id := range l.common {
				if s := l.spans[id]; s.class == class && !s.swept && s.full == full {
					gone := l.sweep(id)
					l.put(id)
					return gone, true
				}
			}
		}
	}
	return nil, false
}

func (l *table) unswept() int {
	n := 0
	for _, id := range l.common {
		if !l.spans[id].swept {
			n++
		}
	}
	return n
}

func (l *table) drop() int {
	n := 0
	for _, id := range slices.Sorted(maps.Keys(l.spans)) {
		if s := l.spans[id]; s.p < 0 && s.swept && len(s.objects) == 0 {
			for i := range sizes[s.class].pages {
				l.free[s.first+i] = true
			}
			l.take(id)
			delete(l.spans, id)
			n++
		}
	}
	return n
}

// mark marks an object; false, if it was, or is none.
func (l *table) mark(addr int) bool {
	for id, s := range l.spans {
		for i, marked := range s.objects {
			if l.addr(id, i) == addr {
				s.objects[i] = true
				return !marked
			}
		}
	}
	return false
}

// marks is all addresses, and whether what is there is marked.
func (l *table) marks() map[int]bool {
	all := map[int]bool{}
	for id, s := range l.spans {
		for i, marked := range s.objects {
			all[l.addr(id, i)] = marked
		}
	}
	return all
}

func (l *table) left() int {
	n := 0
	for _, free := range l.free {
		if free {
			n++
		}
	}
	return n
}

// pair is a heap and its table: each call on both is held against one another, and what can be seen behind it.
type pair struct {
	t *testing.T
	h *cache.Heap
	l *table
}

func both(t *testing.T, words, ps int) *pair {
	t.Helper()
	h, err := cache.New(words, ps)
	if h == nil || err != api.OK {
		t.Fatalf("9.1: New(%d, %d): %d", words, ps, err)
	}
	p := &pair{t, h, newTable(words, ps)}
	p.held()
	return p
}

func (p *pair) held() {
	p.t.Helper()
	if got, want := p.h.Unswept(), p.l.unswept(); got != want {
		p.t.Fatalf("9.2: %d unswept, not %d", got, want)
	}
	a := p.h.Arena()
	if got, want := a.Left(), p.l.left(); got != want {
		p.t.Fatalf("9.1: %d pages left, not %d", got, want)
	}
	if got, want := a.Spans(), slices.Sorted(maps.Keys(p.l.spans)); !slices.Equal(got, want) {
		p.t.Fatalf("9.1: spans %v, not %v", got, want)
	}
	marks := p.l.marks()
	if got, want := a.Objects(), slices.Sorted(maps.Keys(marks)); !slices.Equal(got, want) {
		p.t.Fatalf("9.1: objects %v, not %v", got, want)
	}
	for addr, marked := range marks {
		if a.Marked(addr) != marked {
			p.t.Fatalf("9.1: the object at %d: marked %v", addr, !marked)
		}
	}
}

func (p *pair) alloc(ps, n int, black bool) (int, []int, int) {
	p.t.Helper()
	addr, gone, err := p.h.Alloc(ps, n, black)
	if a, b, c := p.l.alloc(ps, n, black); addr != a || !slices.Equal(gone, b) || err != c {
		p.t.Fatalf("9.1: Alloc(%d, %d, %v): %d, %v, %d, not %d, %v, %d", ps, n, black, addr, gone, err, a, b, c)
	}
	if err == api.OK && p.h.Arena().Len(addr) != n {
		p.t.Fatalf("9.1: Alloc(%d, %d, %v): %d slots", ps, n, black, p.h.Arena().Len(addr))
	}
	p.held()
	return addr, gone, err
}

// fill allocates objects of n slots till there is no room: their addresses.
func (p *pair) fill(ps, n int, black bool) []int {
	p.t.Helper()
	var all []int
	for {
		addr, _, err := p.alloc(ps, n, black)
		if err != api.OK {
			return all
		}
		all = append(all, addr)
	}
}

func (p *pair) begin() int {
	p.t.Helper()
	got := p.h.Begin()
	if want := p.l.begin(); got != want {
		p.t.Fatalf("9.2: Begin: %d, not %d", got, want)
	}
	p.held()
	return got
}

func (p *pair) flush(ps int) {
	p.t.Helper()
	p.h.Flush(ps)
	p.l.flush(ps)
	p.held()
}

func (p *pair) sweep() ([]int, bool) {
	p.t.Helper()
	gone, ok := p.h.Sweep()
	if a, b := p.l.any(); !slices.Equal(gone, a) || ok != b {
		p.t.Fatalf("9.2: Sweep: %v, %v, not %v, %v", gone, ok, a, b)
	}
	p.held()
	return gone, ok
}

// sweepAll sweeps till none is unswept.
func (p *pair) sweepAll() {
	p.t.Helper()
	for ok := true; ok; {
		_, ok = p.sweep()
	}
	if n := p.h.Unswept(); n != 0 {
		p.t.Fatalf("9.2: %d unswept behind all", n)
	}
}

func (p *pair) drop() int {
	p.t.Helper()
	got := p.h.Drop()
	if want := p.l.drop(); got != want {
		p.t.Fatalf("9.2: Drop: %d, not %d", got, want)
	}
	p.held()
	return got
}

func (p *pair) mark(addr int) {
	p.t.Helper()
	if got, want := p.h.Arena().Mark(addr), p.l.mark(addr); got != want {
		p.t.Fatalf("9.1: Mark(%d): %v", addr, got)
	}
}
