package bits

import (
	"math"
	"math/rand"
	"slices"
	"testing"

	"treadmill/api"
)

// sizes: both sides of where a word ends, and none.
var sizes = []int{0, 1, 2, 7, 63, 64, 65, 127, 128, 129, 200, 1000}

// list is a set as a list of numbers, asked one by one (3.2).
type list struct {
	n  int
	in []int
}

func (l *list) has(i int) bool { return slices.Contains(l.in, i) }

func (l *list) set(i int) bool {
	if i < 0 || i >= l.n || l.has(i) {
		return false
	}
	l.in = append(l.in, i)
	slices.Sort(l.in)
	return true
}

func (l *list) clear(i int) bool {
	k := slices.Index(l.in, i)
	if k < 0 {
		return false
	}
	l.in = slices.Delete(l.in, k, k+1)
	return true
}

func (l *list) next(i int, has bool) int {
	for i = max(i, 0); i < l.n; i++ {
		if l.has(i) == has {
			return i
		}
	}
	return -1
}

// held tells where s is not as l.
func held(t *testing.T, s *Set, l *list) {
	t.Helper()
	if s.Len() != l.n || s.Count() != len(l.in) || !slices.Equal(s.All(), l.in) {
		t.Fatalf("3.1: Len %d, Count %d, All %v, not %d, %v", s.Len(), s.Count(), s.All(), l.n, l.in)
	}
	for i := -2; i < l.n+2; i++ {
		if s.Has(i) != l.has(i) {
			t.Fatalf("3.1: Has(%d) of %d: %v", i, l.n, s.Has(i))
		}
		for _, has := range []bool{true, false} {
			if got, want := s.Next(i, has), l.next(i, has); got != want {
				t.Fatalf("3.1: Next(%d, %v) of %d: %d, not %d", i, has, l.n, got, want)
			}
		}
	}
}

// full is a set of n with all numbers in it.
func full(n int) *Set {
	s := New(n)
	for i := range n {
		s.Set(i)
	}
	return s
}

// far: numbers that are of no set.
var far = []int{-1, -2, -63, -64, -65, math.MinInt, math.MinInt + 1, math.MaxInt, math.MaxInt - 1, math.MaxInt - 63, api.MaxWords, api.MaxWords + 1, math.MaxInt32, math.MinInt32}

// 3.1: New takes its size into 0 to MaxWords, and nothing is in it.
func TestNew(t *testing.T) {
	for _, x := range []struct{ n, want int }{
		{0, 0}, {1, 1}, {64, 64}, {65, 65}, {-1, 0}, {-64, 0}, {math.MinInt, 0},
		{1<<24 - 1, 1<<24 - 1}, {1 << 24, 1 << 24}, {1<<24 + 1, 1 << 24}, {1 << 30, 1 << 24}, {math.MaxInt, 1 << 24}, {math.MaxInt - 62, 1 << 24},
	} {
		s := New(x.n)
		if s == nil || s.Len() != x.want {
			t.Fatalf("3.1: New(%d): Len %d", x.n, s.Len())
		}
		if s.Count() != 0 || len(s.All()) != 0 || s.Next(0, true) != -1 {
			t.Errorf("3.1: New(%d): not empty", x.n)
		}
		if want := min(x.want, 1) - 1; s.Next(0, false) != want {
			t.Errorf("3.1: New(%d): Next(0, false): %d", x.n, s.Next(0, false))
		}
		if s.Set(x.want) || s.Has(x.want) || x.want > 0 && !s.Set(x.want-1) {
			t.Errorf("3.1: New(%d): its last number is not the last", x.n)
		}
	}
}

// 3.1: the greatest set, at its ends.
func TestGreatest(t *testing.T) {
	const last = 1<<24 - 1
	s := New(api.MaxWords)
	if !s.Set(last) || !s.Has(last) || s.Next(0, true) != last || s.Next(last, true) != last || s.Next(last+1, true) != -1 || s.Next(last, false) != -1 || s.Count() != 1 {
		t.Error("3.1: the last of all numbers is lost")
	}
	if !s.Set(0) || !slices.Equal(s.All(), []int{0, last}) || s.Next(0, false) != 1 || s.Next(1, true) != last {
		t.Error("3.1: the first of all numbers is lost")
	}
}

// 3.1: Set and Clear tell whether they turned something.
func TestTurned(t *testing.T) {
	for _, n := range sizes {
		s := New(n)
		for _, i := range []int{0, n / 2, n - 1} {
			if n == 0 {
				break
			}
			had := s.Has(i)
			if s.Set(i) == had || !s.Has(i) || s.Set(i) || !s.Has(i) {
				t.Errorf("3.1: Set(%d) of %d", i, n)
			}
		}
		for _, i := range []int{0, n / 2, n - 1} {
			had := s.Has(i)
			if s.Clear(i) != had || s.Has(i) || s.Clear(i) {
				t.Errorf("3.1: Clear(%d) of %d", i, n)
			}
		}
		if s.Count() != 0 {
			t.Errorf("3.1: %d are left of %d", s.Count(), n)
		}
	}
}

// 3.1: the document's example, and what stands on both sides of the end of a word.
func TestNext(t *testing.T) {
	s := New(10)
	s.Set(5)
	if s.Next(0, true) != 5 || s.Next(5, false) != 6 || s.Next(5, true) != 5 || s.Next(6, true) != -1 || s.Next(0, false) != 0 || s.Next(-7, true) != 5 || s.Next(-7, false) != 0 {
		t.Error("3.1: Next: the example")
	}
	if s.Next(9, false) != 9 || s.Next(10, false) != -1 || s.Next(10, true) != -1 || s.Next(math.MaxInt, false) != -1 || s.Next(math.MinInt, true) != 5 || s.Next(math.MinInt, false) != 0 {
		t.Error("3.1: Next at its ends")
	}
	s = New(130)
	s.Set(63)
	s.Set(64)
	s.Set(129)
	for _, x := range []struct {
		from int
		has  bool
		want int
	}{{0, true, 63}, {63, true, 63}, {64, true, 64}, {65, true, 129}, {62, false, 62}, {63, false, 65}, {64, false, 65}, {129, false, -1}, {129, true, 129}, {130, true, -1}, {128, false, 128}} {
		if got := s.Next(x.from, x.has); got != x.want {
			t.Errorf("3.1: Next(%d, %v): %d, not %d", x.from, x.has, got, x.want)
		}
	}
}

// 3.1: of a set that has all, nothing is out; no number beyond Len comes up.
func TestFull(t *testing.T) {
	for _, n := range sizes {
		s, all := full(n), []int{}
		for i := range n {
			all = append(all, i)
		}
		held(t, s, &list{n, all})
		if s.Count() != n || s.Next(0, false) != -1 || s.Next(-1, false) != -1 {
			t.Errorf("3.1: of %d all are in it: Count %d, Next %d", n, s.Count(), s.Next(0, false))
		}
	}
}

// 3.1: numbers that are of no set are asked, and turn nothing.
func TestFar(t *testing.T) {
	for _, n := range sizes {
		for _, s := range []*Set{New(n), full(n)} {
			count := s.Count()
			for _, i := range append([]int{n, n + 1, n + 63, n + 64}, far...) {
				if s.Has(i) || s.Set(i) || s.Clear(i) || s.Has(i) {
					t.Errorf("3.1: %d is in a set of %d", i, n)
				}
				if i >= n && (s.Next(i, true) != -1 || s.Next(i, false) != -1) {
					t.Errorf("3.1: Next(%d) of %d", i, n)
				}
				if i < 0 && (s.Next(i, true) != s.Next(0, true) || s.Next(i, false) != s.Next(0, false)) {
					t.Errorf("3.1: Next(%d) of %d is not as from 0", i, n)
				}
			}
			if s.Count() != count || s.Len() != n {
				t.Errorf("3.1: a set of %d has turned", n)
			}
		}
	}
}

// 3.1: Copy makes one as the other, and no more than once.
func TestCopy(t *testing.T) {
	for _, n := range sizes {
		s, o := New(n), full(n)
		o.Clear(n / 3)
		s.Set(n / 3)
		want := o.All()
		if !s.Copy(o) || !slices.Equal(s.All(), want) || !slices.Equal(o.All(), want) {
			t.Errorf("3.1: Copy of %d: %v", n, s.All())
		}
		s.Set(n / 3)
		s.Clear(n - 1)
		if !slices.Equal(o.All(), want) {
			t.Errorf("3.1: a copy of %d still hangs on what it was made of", n)
		}
		want = s.All()
		o.Set(n / 3)
		o.Clear(0)
		if !slices.Equal(s.All(), want) {
			t.Errorf("3.1: what a copy of %d was made of still hangs on it", n)
		}
		if !s.Copy(s) || !slices.Equal(s.All(), want) {
			t.Errorf("3.1: a copy of %d of itself", n)
		}
		if !s.Copy(New(n)) || s.Count() != 0 {
			t.Errorf("3.1: a copy of %d of none", n)
		}
	}
}

// 3.1: of another Len nothing is copied, though as many words hold it.
func TestCopyOther(t *testing.T) {
	for _, n := range sizes {
		for _, m := range sizes {
			if n == m {
				continue
			}
			s, o := New(n), full(m)
			s.Set(n - 1)
			want, other := s.All(), o.All()
			if s.Copy(o) || !slices.Equal(s.All(), want) || s.Len() != n || !slices.Equal(o.All(), other) || o.Len() != m {
				t.Errorf("3.1: a set of %d copies one of %d", n, m)
			}
		}
		var none *Set
		if s := full(n); s.Copy(none) || s.Count() != n {
			t.Errorf("3.1: a set of %d copies a nil one", n)
		}
	}
}

// 3.1: a nil Set answers 0, false, -1, nothing.
func TestNil(t *testing.T) {
	var s *Set
	for _, i := range append([]int{0, 1, 63, 64}, far...) {
		if s.Has(i) || s.Set(i) || s.Clear(i) || s.Next(i, true) != -1 || s.Next(i, false) != -1 {
			t.Errorf("3.1: a nil Set knows of %d", i)
		}
	}
	if s.Len() != 0 || s.Count() != 0 || len(s.All()) != 0 || s.Copy(New(1)) || s.Copy(New(0)) || s.Copy(nil) {
		t.Error("3.1: a nil Set is not empty")
	}
}

// 3.1: All is the caller's own.
func TestAllIsNew(t *testing.T) {
	s := full(70)
	a, b := s.All(), s.All()
	a[0], a[69] = 5, -1
	if b[0] != 0 || b[69] != 69 || s.Count() != 70 || !s.Has(0) || s.Next(0, true) != 0 || s.All()[0] != 0 {
		t.Error("3.1: All hangs on the set")
	}
}

// 3.2: whatever is done, it is as a list of numbers.
func TestAsList(t *testing.T) {
	r := rand.New(rand.NewSource(1))
	for _, n := range sizes {
		s, l := New(n), &list{n: n}
		other, m := New(n), &list{n: n}
		for step := range 600 {
			i := r.Intn(n+4) - 2
			switch k := r.Intn(20); {
			case k < 10:
				if got, want := s.Set(i), l.set(i); got != want {
					t.Fatalf("3.2: Set(%d) of %d: %v", i, n, got)
				}
			case k < 19:
				if got, want := s.Clear(i), l.clear(i); got != want {
					t.Fatalf("3.2: Clear(%d) of %d: %v", i, n, got)
				}
			case r.Intn(2) == 0:
				if !other.Copy(s) {
					t.Fatalf("3.2: Copy of %d: false", n)
				}
				m.in = slices.Clone(l.in)
			default:
				s, other, l, m = other, s, m, l
			}
			if step%20 == 0 || n < 10 {
				held(t, s, l)
				held(t, other, m)
			}
		}
	}
}
