package class

import (
	"math"
	"testing"
)

// rows: what 4.1 comes to, class by class, by hand.
var rows = []struct{ size, pages, slots int }{
	{1, 1, 64}, {2, 1, 32}, {3, 1, 21}, {4, 1, 16}, {6, 1, 10}, {8, 1, 8}, {12, 1, 5}, {16, 1, 4},
	{24, 2, 5}, {32, 1, 2}, {48, 3, 4}, {64, 1, 1}, {96, 3, 2}, {128, 2, 1}, {192, 3, 1}, {256, 4, 1},
}

// none: numbers that are no class's.
var none = []int{-1, -2, -16, 16, 17, 31, 32, 256, math.MaxInt, math.MinInt, math.MaxInt32, math.MinInt32, 1 << 32, -1 << 32}

// 4.1: all sixteen classes.
func TestClasses(t *testing.T) {
	if Count() != 16 || Count() != len(rows) {
		t.Fatalf("4.1: %d classes", Count())
	}
	for k, x := range rows {
		if Size(k) != x.size || Pages(k) != x.pages || Slots(k) != x.slots {
			t.Errorf("4.1: class %d: %d words, %d pages, %d slots, not %d, %d, %d", k, Size(k), Pages(k), Slots(k), x.size, x.pages, x.slots)
		}
	}
}

// 4.1: of no class there is nothing.
func TestNoClass(t *testing.T) {
	for _, k := range none {
		if Size(k) != 0 || Pages(k) != 0 || Slots(k) != 0 {
			t.Errorf("4.1: class %d: %d words, %d pages, %d slots", k, Size(k), Pages(k), Slots(k))
		}
	}
}

// 4.1: Of, every size from 1 to 256: the class's is at least that, and the one's below is not.
func TestOf(t *testing.T) {
	for n := 1; n <= 256; n++ {
		want := 0
		for rows[want].size < n {
			want++
		}
		if got := Of(n); got != want {
			t.Errorf("4.1: Of(%d): %d, not %d", n, got, want)
		}
	}
	for k, x := range rows {
		if Of(x.size) != k {
			t.Errorf("4.1: Of(%d): %d, not %d", x.size, Of(x.size), k)
		}
	}
}

// 4.1: Of what is no size.
func TestOfNone(t *testing.T) {
	for _, n := range []int{0, -1, -2, -256, 257, 258, 1 << 20, 1<<32 + 1, math.MaxInt, math.MinInt, math.MaxInt32, math.MinInt32} {
		if got := Of(n); got != -1 {
			t.Errorf("4.1: Of(%d): %d", n, got)
		}
	}
}

// 4.1: no fewer pages would do, and no more sizes would fit.
func TestLeast(t *testing.T) {
	for k := range Count() {
		size, words := Size(k), Pages(k)*64
		if left := words - Slots(k)*size; left < 0 || left >= size {
			t.Errorf("4.1: class %d: %d words are left of %d", k, left, words)
		}
		for p := 1; p < Pages(k); p++ {
			if left := p * 64 % size; left*8 <= p*64 {
				t.Errorf("4.1: class %d: %d pages would do", k, p)
			}
		}
	}
}

// 4.2: at most an eighth of a span is lost at its end, and each size is above the one below it.
func TestLost(t *testing.T) {
	for k := range Count() {
		if left := Pages(k)*64 - Slots(k)*Size(k); left*8 > Pages(k)*64 {
			t.Errorf("4.2: class %d: %d words of %d are lost", k, left, Pages(k)*64)
		}
		if Slots(k) < 1 || k > 0 && Size(k) <= Size(k-1) {
			t.Errorf("4.2: class %d: no place, or no greater than the one below", k)
		}
	}
}
