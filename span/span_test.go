package span

import (
	"math"
	"math/rand"
	"slices"
	"testing"

	"treadmill/api"
)

// rows: the classes' sizes, and how many places a span of each has, by hand.
var rows = []struct{ size, slots int }{
	{1, 64}, {2, 32}, {3, 21}, {4, 16}, {6, 10}, {8, 8}, {12, 5}, {16, 4},
	{24, 5}, {32, 2}, {48, 4}, {64, 1}, {96, 2}, {128, 1}, {192, 1}, {256, 1},
}

// far: numbers that are no place of any span.
var far = []int{-1, -2, -64, 64, 65, 1 << 20, math.MaxInt, math.MaxInt - 1, math.MinInt, math.MinInt + 1, math.MaxInt32, math.MinInt32}

// made is a span of class k at that page.
func made(t *testing.T, first, k int) *Span {
	t.Helper()
	s, err := New(first, k)
	if s == nil || err != api.OK {
		t.Fatalf("6.1: New(%d, %d): %d", first, k, err)
	}
	return s
}

// filled is a span of class k whose places are all used.
func filled(t *testing.T, k int, black bool) *Span {
	t.Helper()
	s := made(t, 1, k)
	for i := range s.Slots() {
		if got, ok := s.Alloc(black); got != i || !ok {
			t.Fatalf("6.1: class %d: place %d: %d, %v", k, i, got, ok)
		}
	}
	return s
}

// table is the places one by one, 'f'ree, 'u'sed or used and 'm'arked.
type table []byte

func newTable(n int) table {
	return table(slices.Repeat([]byte{'f'}, n))
}

func (l table) alloc(black bool) (int, bool) {
	i := slices.Index(l, 'f')
	if i < 0 {
		return 0, false
	}
	l[i] = 'u'
	if black {
		l[i] = 'm'
	}
	return i, true
}

func (l table) mark(i int) bool {
	if i < 0 || i >= len(l) || l[i] != 'u' {
		return false
	}
	l[i] = 'm'
	return true
}

func (l table) sweep() []int {
	var gone []int
	for i, c := range l {
		switch c {
		case 'u':
			l[i] = 'f'
			gone = append(gone, i)
		case 'm':
			l[i] = 'u'
		}
	}
	return gone
}

// held tells where s is not as l.
func held(t *testing.T, s *Span, l table) {
	t.Helper()
	live := 0
	for i := -2; i < len(l)+2; i++ {
		used, marked := false, false
		if i >= 0 && i < len(l) {
			used, marked = l[i] != 'f', l[i] == 'm'
		}
		if used {
			live++
		}
		if s.Used(i) != used || s.Marked(i) != marked {
			t.Fatalf("6.1: place %d of %d: used %v, marked %v, not %v, %v", i, len(l), s.Used(i), s.Marked(i), used, marked)
		}
	}
	if s.Live() != live || s.Full() != (live == len(l)) || s.Slots() != len(l) {
		t.Fatalf("6.1: of %d places %d live, full %v, not %d", s.Slots(), s.Live(), s.Full(), live)
	}
}

// 6.1: all sixteen classes, at the least, the greatest and another first page: no place is used.
func TestNew(t *testing.T) {
	for k, x := range rows {
		for _, first := range []int{1, 2, 77, 1<<18 - 1, 1 << 18} {
			s := made(t, first, k)
			if s.Class() != k || s.Base() != first*64 || s.Slots() != x.slots {
				t.Errorf("6.1: New(%d, %d): class %d, base %d, %d places", first, k, s.Class(), s.Base(), s.Slots())
			}
			held(t, s, newTable(x.slots))
			if gone := s.Sweep(); len(gone) != 0 {
				t.Errorf("6.1: New(%d, %d): Sweep: %v", first, k, gone)
			}
		}
	}
}

// 6.1: ErrArg of what is no class or no first page.
func TestNewErrors(t *testing.T) {
	for _, x := range [][2]int{
		{1, -1}, {1, 16}, {1, 17}, {1, 256}, {1, math.MaxInt}, {1, math.MinInt}, {1, 1 << 32},
		{0, 0}, {-1, 0}, {-64, 15}, {1<<18 + 1, 0}, {1<<18 + 1, 15}, {1 << 24, 3}, {1<<32 + 1, 0}, {math.MaxInt, 0}, {math.MinInt, 0},
		{0, -1}, {0, 16}, {1<<18 + 1, 16}, {math.MinInt, math.MinInt},
	} {
		if s, err := New(x[0], x[1]); s != nil || err != api.ErrArg {
			t.Errorf("6.1: New(%d, %d): %v, %d", x[0], x[1], s, err)
		}
	}
}

// 6.1: Addr and At, there and back; what lies between places is none.
func TestAddr(t *testing.T) {
	for k, x := range rows {
		for _, first := range []int{1, 5, 1 << 18} {
			s, base := made(t, first, k), first*64
			for i := range x.slots {
				if got := s.Addr(i); got != base+i*x.size {
					t.Errorf("6.1: class %d: Addr(%d): %d, not %d", k, i, got, base+i*x.size)
				}
			}
			for addr := base - 300; addr < base+600; addr++ {
				want, is := 0, false
				if off := addr - base; off >= 0 && off%x.size == 0 && off/x.size < x.slots {
					want, is = off/x.size, true
				}
				if got, ok := s.At(addr); got != want || ok != is {
					t.Errorf("6.1: class %d: At(%d): %d, %v, not %d, %v", k, addr, got, ok, want, is)
				}
			}
		}
	}
}

// 6.1: of what is no place there is nothing, and At tells of places whether used or not.
func TestFar(t *testing.T) {
	for k, x := range rows {
		for _, s := range []*Span{made(t, 1, k), filled(t, k, false), filled(t, k, true)} {
			live := s.Live()
			for _, i := range append([]int{x.slots, x.slots + 1}, far...) {
				if s.Addr(i) != 0 || s.Used(i) || s.Mark(i) || s.Marked(i) {
					t.Errorf("6.1: class %d has place %d", k, i)
				}
			}
			for _, addr := range []int{0, 1, 63, -1, -64, -128, 64 * 6, 1 << 24, math.MaxInt, math.MaxInt - 63, math.MinInt, math.MinInt + 64, math.MinInt + 128} {
				if i, ok := s.At(addr); i != 0 || ok {
					t.Errorf("6.1: class %d: At(%d): %d, %v", k, addr, i, ok)
				}
			}
			if i, ok := s.At(64 + (x.slots-1)*x.size); i != x.slots-1 || !ok {
				t.Errorf("6.1: class %d: the last place: %d, %v", k, i, ok)
			}
			if s.Live() != live {
				t.Errorf("6.1: class %d has turned", k)
			}
		}
	}
}

// 6.1: the document's example, and what stands behind it.
func TestExample(t *testing.T) {
	s := made(t, 1, 0)
	for want := range 2 {
		if i, ok := s.Alloc(false); i != want || !ok {
			t.Errorf("6.1: Alloc: %d, %v", i, ok)
		}
	}
	if !s.Mark(1) || s.Mark(1) {
		t.Error("6.1: Mark(1) is true once")
	}
	if gone := s.Sweep(); !slices.Equal(gone, []int{0}) || s.Used(0) || !s.Used(1) || s.Marked(1) {
		t.Errorf("6.1: Sweep: %v", gone)
	}
	if i, ok := s.Alloc(false); i != 0 || !ok {
		t.Errorf("6.1: the next Alloc: %d, %v", i, ok)
	}
	if i, ok := s.Alloc(false); i != 2 || !ok {
		t.Errorf("6.1: the one behind: %d, %v", i, ok)
	}
}

// 6.1: places come one behind the other till all are used, and then none does.
func TestFull(t *testing.T) {
	for k, x := range rows {
		for _, black := range []bool{false, true} {
			s, l := made(t, 1, k), newTable(x.slots)
			for range x.slots {
				l.alloc(black)
				s.Alloc(black)
				held(t, s, l)
			}
			for range 2 {
				if i, ok := s.Alloc(!black); i != 0 || ok {
					t.Errorf("6.1: class %d is full: %d, %v", k, i, ok)
				}
				held(t, s, l)
			}
		}
	}
}

// 6.1: a place is marked as it comes, if black, and not else.
func TestBlack(t *testing.T) {
	s := made(t, 3, 2)
	for i, black := range []bool{true, false, false, true} {
		if got, ok := s.Alloc(black); got != i || !ok || s.Marked(i) != black || !s.Used(i) {
			t.Errorf("6.1: Alloc(%v): %d, %v, marked %v", black, got, ok, s.Marked(i))
		}
		if s.Mark(i) == black || !s.Marked(i) || s.Mark(i) {
			t.Errorf("6.1: Mark(%d) of a place that came black: %v", i, black)
		}
	}
	if s.Mark(4) || s.Marked(4) || s.Used(4) {
		t.Error("6.1: a free place is marked")
	}
	if i, ok := s.Alloc(false); i != 4 || !ok || s.Marked(4) {
		t.Error("6.1: a place that was asked for its mark while free came marked")
	}
}

// 6.1: Alloc goes on from where the last place was found, and from 0 behind Sweep, whichever place that freed.
func TestFrom(t *testing.T) {
	s := filled(t, 5, true) // 8 places
	s.Sweep()
	for i := range 8 {
		if i != 2 && i != 5 {
			s.Mark(i)
		}
	}
	if !s.Full() {
		t.Error("6.1: all are used, and it is not full")
	}
	if gone := s.Sweep(); !slices.Equal(gone, []int{2, 5}) || s.Full() {
		t.Errorf("6.1: Sweep: %v", gone)
	}
	for _, want := range []int{2, 5} {
		if i, ok := s.Alloc(false); i != want || !ok {
			t.Errorf("6.1: Alloc: %d, %v, not %d", i, ok, want)
		}
	}
	if i, ok := s.Alloc(false); i != 0 || ok || !s.Full() {
		t.Errorf("6.1: none is free: %d, %v", i, ok)
	}
	if gone := s.Sweep(); len(gone) != 8 || s.Live() != 0 || s.Full() {
		t.Errorf("6.1: nothing is marked: %v", gone)
	}
	if i, ok := s.Alloc(false); i != 0 || !ok {
		t.Errorf("6.1: Alloc behind Sweep: %d, %v", i, ok)
	}
}

// 6.2, T3: what is marked stays, what is not goes, in every class; the next time what stayed goes, too.
func TestSweep(t *testing.T) {
	for k, x := range rows {
		for keep := range 4 {
			s := filled(t, k, false)
			var stay, gone []int
			for i := range x.slots {
				if i%4 == keep || i == x.slots-1 && keep == 3 {
					s.Mark(i)
					stay = append(stay, i)
				} else {
					gone = append(gone, i)
				}
			}
			if got := s.Sweep(); !slices.Equal(got, gone) {
				t.Errorf("6.2: class %d: %v are gone, not %v", k, got, gone)
			}
			for i := range x.slots {
				if s.Used(i) != slices.Contains(stay, i) || s.Marked(i) {
					t.Errorf("6.2: class %d: place %d: used %v, marked %v", k, i, s.Used(i), s.Marked(i))
				}
			}
			if s.Live() != len(stay) || s.Full() != (len(gone) == 0) {
				t.Errorf("6.2: class %d: %d live, full %v", k, s.Live(), s.Full())
			}
			if got := s.Sweep(); !slices.Equal(got, stay) || s.Live() != 0 {
				t.Errorf("6.2: class %d: %v are gone, not %v", k, got, stay)
			}
			if got := s.Sweep(); len(got) != 0 {
				t.Errorf("6.2: class %d: %v are gone of none", k, got)
			}
		}
	}
}

// 6.1: a nil Span, and one that New did not make, has nothing, and is full.
func TestNil(t *testing.T) {
	var none *Span
	for _, s := range []*Span{none, {}} {
		if s.Class() != 0 || s.Base() != 0 || s.Slots() != 0 || s.Live() != 0 || !s.Full() || len(s.Sweep()) != 0 {
			t.Error("6.1: a nil Span has something")
		}
		for _, black := range []bool{false, true} {
			if i, ok := s.Alloc(black); i != 0 || ok {
				t.Errorf("6.1: a nil Span: Alloc: %d, %v", i, ok)
			}
		}
		for _, i := range append([]int{0, 1, 63}, far...) {
			if s.Addr(i) != 0 || s.Used(i) || s.Mark(i) || s.Marked(i) {
				t.Errorf("6.1: a nil Span has place %d", i)
			}
			if at, ok := s.At(i); at != 0 || ok {
				t.Errorf("6.1: a nil Span: At(%d): %d, %v", i, at, ok)
			}
		}
	}
}

// 6.1: what Sweep told is the caller's own.
func TestSweepIsNew(t *testing.T) {
	s := filled(t, 6, false) // 5 places
	gone := s.Sweep()
	clear(gone)
	if s.Live() != 0 || s.Full() {
		t.Error("6.1: the span hangs on what Sweep told")
	}
	for range 5 {
		s.Alloc(false)
	}
	if again := s.Sweep(); !slices.Equal(again, []int{0, 1, 2, 3, 4}) || !slices.Equal(gone, make([]int, 5)) {
		t.Errorf("6.1: Sweep: %v, and what it told before: %v", again, gone)
	}
}

// 6.1, 6.2: rows of Alloc, Mark and Sweep, against the places one by one.
func TestRows(t *testing.T) {
	r := rand.New(rand.NewSource(1))
	for k, x := range rows {
		s, l := made(t, 1+k, k), newTable(x.slots)
		for range 3000 {
			switch what := r.Intn(20); {
			case what < 9:
				black := r.Intn(3) == 0
				got, ok := s.Alloc(black)
				if want, is := l.alloc(black); got != want || ok != is {
					t.Fatalf("6.1: class %d: Alloc: %d, %v, not %d, %v", k, got, ok, want, is)
				}
			case what < 18:
				i := r.Intn(x.slots+4) - 2
				if got, want := s.Mark(i), l.mark(i); got != want {
					t.Fatalf("6.1: class %d: Mark(%d): %v", k, i, got)
				}
			case r.Intn(x.slots) < 4:
				if got, want := s.Sweep(), l.sweep(); !slices.Equal(got, want) {
					t.Fatalf("6.2: class %d: Sweep: %v, not %v", k, got, want)
				}
			}
			held(t, s, l)
		}
	}
}
