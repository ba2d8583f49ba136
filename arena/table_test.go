package arena

import (
	"maps"
	"slices"
	"testing"

	"treadmill/api"
)

// rows: the classes' sizes, and how many pages and places a span of each has, by hand.
var rows = []struct{ size, pages, slots int }{
	{1, 1, 64}, {2, 1, 32}, {3, 1, 21}, {4, 1, 16}, {6, 1, 10}, {8, 1, 8}, {12, 1, 5}, {16, 1, 4},
	{24, 2, 5}, {32, 1, 2}, {48, 3, 4}, {64, 1, 1}, {96, 3, 2}, {128, 2, 1}, {192, 3, 1}, {256, 4, 1},
}

// object is one as the table has it.
type object struct {
	slots  []int
	marked bool
}

// owner is a span as the table has it: its objects by their places.
type owner struct {
	first, class int
	objects      map[int]*object
}

// table is an arena as 7.1 and 7.2 tell it, all of it gone through each time.
type table struct {
	free  []bool // pages
	spans map[int]*owner
}

func newTable(words int) *table {
	l := &table{free: make([]bool, words/64), spans: map[int]*owner{}}
	for i := 1; i < len(l.free); i++ {
		l.free[i] = true
	}
	return l
}

// run is the first of the least run of at least k free pages; 0, if there is none.
func (l *table) run(k int) int {
	best, most := 0, len(l.free)
	for i := 1; i < len(l.free); i++ {
		n := 0
		for i+n < len(l.free) && l.free[i+n] {
			n++
		}
		if !l.free[i-1] && n >= k && n < most {
			best, most = i, n
		}
		i += n
	}
	return best
}

func (l *table) span(k int) (int, int) {
	if k < 0 || k >= len(rows) {
		return 0, api.ErrArg
	}
	first := l.run(rows[k].pages)
	if first == 0 {
		return 0, api.ErrFull
	}
	id := 0
	for l.spans[id] != nil {
		id++
	}
	for i := range rows[k].pages {
		l.free[first+i] = false
	}
	l.spans[id] = &owner{first, k, map[int]*object{}}
	return id, api.OK
}

func (l *table) drop(id int) int {
	s := l.spans[id]
	switch {
	case s == nil:
		return api.ErrNone
	case len(s.objects) > 0:
		return api.ErrState
	}
	for i := range rows[s.class].pages {
		l.free[s.first+i] = true
	}
	delete(l.spans, id)
	return api.OK
}

func (l *table) addr(id, i int) int {
	return l.spans[id].first*64 + i*rows[l.spans[id].class].size
}

func (l *table) alloc(id, n int, black bool) (int, int) {
	s := l.spans[id]
	switch {
	case s == nil:
		return 0, api.ErrNone
	case n < 1 || n > rows[s.class].size:
		return 0, api.ErrArg
	case len(s.objects) == rows[s.class].slots:
		return 0, api.ErrFull
	}
	i := 0
	for s.objects[i] != nil {
		i++
	}
	s.objects[i] = &object{make([]int, n), black}
	return l.addr(id, i), api.OK
}

func (l *table) find(addr int) (api.Slot, *object) {
	for id, s := range l.spans {
		for i, o := range s.objects {
			if l.addr(id, i) == addr {
				return api.Slot{Span: id, Index: i}, o
			}
		}
	}
	return api.Slot{}, nil
}

func (l *table) load(addr, i int) (int, int) {
	_, o := l.find(addr)
	switch {
	case o == nil:
		return 0, api.ErrNone
	case i < 0 || i >= len(o.slots):
		return 0, api.ErrRange
	}
	return o.slots[i], api.OK
}

func (l *table) store(addr, i, v int) int {
	_, err := l.load(addr, i)
	if err == api.OK {
		_, o := l.find(addr)
		o.slots[i] = v
	}
	return err
}

func (l *table) mark(addr int) bool {
	_, o := l.find(addr)
	if o == nil || o.marked {
		return false
	}
	o.marked = true
	return true
}

func (l *table) sweep(id int) ([]int, int) {
	s := l.spans[id]
	if s == nil {
		return nil, api.ErrNone
	}
	var gone []int
	for i, o := range s.objects {
		if !o.marked {
			gone = append(gone, l.addr(id, i))
			delete(s.objects, i)
		}
		o.marked = false
	}
	slices.Sort(gone)
	return gone, api.OK
}

func (l *table) objects() []int {
	var all []int
	for id, s := range l.spans {
		for i := range s.objects {
			all = append(all, l.addr(id, i))
		}
	}
	slices.Sort(all)
	return all
}

// sums is how many words live, how many pages are left.
func (l *table) sums() (int, int) {
	live, left := 0, 0
	for _, s := range l.spans {
		live += len(s.objects) * rows[s.class].size
	}
	for _, free := range l.free {
		if free {
			left++
		}
	}
	return live, left
}

// held tells where a is not as l.
func held(t *testing.T, a *Arena, l *table) {
	t.Helper()
	if live, left := l.sums(); a.Live() != live || a.Left() != left {
		t.Fatalf("7.2: %d words live, %d pages left, not %d, %d", a.Live(), a.Left(), live, left)
	}
	if want := slices.Sorted(maps.Keys(l.spans)); !slices.Equal(a.Spans(), want) {
		t.Fatalf("7.1: spans %v, not %v", a.Spans(), want)
	}
	if want := l.objects(); !slices.Equal(a.Objects(), want) {
		t.Fatalf("7.2: objects %v, not %v", a.Objects(), want)
	}
	for id := -1; id < len(l.spans)+2; id++ {
		class, full := -1, true
		if s := l.spans[id]; s != nil {
			class, full = s.class, len(s.objects) == rows[s.class].slots
		}
		if a.Class(id) != class || a.Full(id) != full {
			t.Fatalf("7.1: span %d: class %d, full %v, not %d, %v", id, a.Class(id), a.Full(id), class, full)
		}
	}
}

// seen tells where an address is not in a as in l.
func seen(t *testing.T, a *Arena, l *table, addr int) {
	t.Helper()
	slot, o := l.find(addr)
	if got, ok := a.Find(addr); got != slot || ok != (o != nil) {
		t.Fatalf("7.2: Find(%d): %v, %v, not %v", addr, got, ok, slot)
	}
	slots, marked := []int(nil), false
	if o != nil {
		slots, marked = o.slots, o.marked
	}
	if a.Len(addr) != len(slots) || a.Marked(addr) != marked {
		t.Fatalf("7.2: at %d %d slots, marked %v, not %d, %v", addr, a.Len(addr), a.Marked(addr), len(slots), marked)
	}
	for i := -1; i < len(slots)+2; i++ {
		got, err := a.Load(addr, i)
		if want, no := l.load(addr, i); got != want || err != no {
			t.Fatalf("7.2: Load(%d, %d): %d, %d, not %d, %d", addr, i, got, err, want, no)
		}
	}
}

// both is an arena and its table.
func both(t *testing.T, words int) (*Arena, *table) {
	t.Helper()
	a, err := New(words)
	if a == nil || err != api.OK {
		t.Fatalf("7.1: New(%d): %d", words, err)
	}
	l := newTable(words)
	held(t, a, l)
	return a, l
}

// makeSpan holds a Span against the table's.
func makeSpan(t *testing.T, a *Arena, l *table, k int) int {
	t.Helper()
	got, err := a.Span(k)
	if want, no := l.span(k); got != want || err != no {
		t.Fatalf("7.1: Span(%d): %d, %d, not %d, %d", k, got, err, want, no)
	}
	held(t, a, l)
	return got
}

// drop holds a Drop against the table's.
func drop(t *testing.T, a *Arena, l *table, id int) {
	t.Helper()
	if err, no := a.Drop(id), l.drop(id); err != no {
		t.Fatalf("7.1: Drop(%d): %d, not %d", id, err, no)
	}
	held(t, a, l)
}

// alloc holds an Alloc against the table's.
func alloc(t *testing.T, a *Arena, l *table, id, n int, black bool) int {
	t.Helper()
	got, err := a.Alloc(id, n, black)
	want, no := l.alloc(id, n, black)
	if got != want || err != no {
		t.Fatalf("7.1: Alloc(%d, %d, %v): %d, %d, not %d, %d", id, n, black, got, err, want, no)
	}
	held(t, a, l)
	seen(t, a, l, got)
	return got
}

// store holds a Store against the table's.
func store(t *testing.T, a *Arena, l *table, addr, i, v int) {
	t.Helper()
	if err, no := a.Store(addr, i, v), l.store(addr, i, v); err != no {
		t.Fatalf("7.2: Store(%d, %d, %d): %d, not %d", addr, i, v, err, no)
	}
	seen(t, a, l, addr)
}

// mark holds a Mark against the table's.
func mark(t *testing.T, a *Arena, l *table, addr int) {
	t.Helper()
	if got, want := a.Mark(addr), l.mark(addr); got != want {
		t.Fatalf("7.2: Mark(%d): %v", addr, got)
	}
	seen(t, a, l, addr)
}

// sweep holds a Sweep against the table's.
func sweep(t *testing.T, a *Arena, l *table, id int) {
	t.Helper()
	got, err := a.Sweep(id)
	if want, no := l.sweep(id); !slices.Equal(got, want) || err != no {
		t.Fatalf("7.2: Sweep(%d): %v, %d, not %v, %d", id, got, err, want, no)
	}
	held(t, a, l)
}
