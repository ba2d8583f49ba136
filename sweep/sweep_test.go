package sweep_test

import (
	"math"
	"math/big"
	"math/rand"
	"testing"

	"treadmill/fix"
	"treadmill/sweep"
)

const (
	one  = 1 << 20
	most = 1 << 31 // of all numbers
	top  = math.MaxInt64
)

// cut is a number as 26.1 counts it.
func cut(n int64) int64 {
	if n < 0 {
		return 0
	}
	if n > most {
		return most
	}
	return n
}

// need is 26.1's, of numbers without ends: the least whole number is sought from the quotient rounded down.
func need(spans, swept int, began, now, goal int64) int {
	all, done := cut(int64(spans)), cut(int64(swept))
	began, now, goal = cut(began), cut(now), cut(goal)
	if done > all {
		done = all
	}
	if now < began {
		now = began
	}
	if goal <= began {
		return int(all - done)
	}
	by := big.NewInt(goal - began)
	product := new(big.Int).Mul(big.NewInt(all), big.NewInt(now-began))
	least := new(big.Int).Quo(product, by)
	if new(big.Int).Mul(least, by).Cmp(product) < 0 {
		least.Add(least, big.NewInt(1))
	}
	n := least.Int64() - done
	if n < 0 {
		return 0
	}
	if n > all-done {
		return int(all - done)
	}
	return int(n)
}

// even is 26.1's, of numbers without ends.
func even(spans int, began, goal int64) int64 {
	all := cut(int64(spans))
	began, goal = cut(began), cut(goal)
	if goal <= began {
		return top
	}
	parts := new(big.Int).Mul(big.NewInt(all), big.NewInt(one))
	return parts.Quo(parts, big.NewInt(goal-began)).Int64()
}

// 26.1: the document's example.
func TestExample(t *testing.T) {
	if got := sweep.Need(10, 0, 100, 150, 200); got != 5 {
		t.Errorf("26.1: Need: %d", got)
	}
}

// 26.1: Need by hand: divided without rest and rounded up, behind what is swept, at the goal and beyond.
func TestNeed(t *testing.T) {
	for _, x := range []struct {
		spans, swept     int
		began, now, goal int64
		want             int
	}{
		{10, 0, 100, 100, 200, 0}, {10, 0, 100, 101, 200, 1}, {10, 0, 100, 109, 200, 1}, {10, 0, 100, 110, 200, 1}, {10, 0, 100, 111, 200, 2}, {10, 0, 100, 149, 200, 5}, {10, 0, 100, 151, 200, 6},
		{10, 0, 100, 190, 200, 9}, {10, 0, 100, 191, 200, 10}, {10, 0, 100, 199, 200, 10}, {10, 0, 100, 200, 200, 10}, {10, 0, 100, 201, 200, 10}, {10, 0, 100, most, 200, 10},
		{10, 4, 100, 150, 200, 1}, {10, 5, 100, 150, 200, 0}, {10, 6, 100, 150, 200, 0}, {10, 9, 100, 150, 200, 0}, {10, 5, 100, 151, 200, 1}, {10, 3, 100, 200, 200, 7}, {10, 3, 100, 999, 200, 7},
		{10, 10, 100, 200, 200, 0}, {10, 11, 100, 200, 200, 0}, {10, 99, 100, 999, 200, 0}, {10, math.MaxInt, 100, 999, 200, 0},
		{10, 0, 100, 99, 200, 0}, {10, 0, 100, 0, 200, 0}, {10, 4, 100, 99, 200, 0}, {10, 0, 100, math.MinInt64, 200, 0},
		{3, 0, 0, 1, 3, 1}, {3, 0, 0, 2, 3, 2}, {3, 0, 0, 1, 100, 1}, {3, 0, 0, 33, 100, 1}, {3, 0, 0, 34, 100, 2}, {1, 0, 0, 1, most, 1}, {100, 0, 0, 1, 3, 34}, {100, 0, 0, 2, 3, 67},
		{0, 0, 100, 150, 200, 0}, {0, 5, 100, 150, 200, 0}, {0, 0, 100, 150, 100, 0},
		{10, 0, 100, 100, 100, 10}, {10, 4, 100, 100, 100, 6}, {10, 4, 100, 0, 99, 6}, {10, 4, 100, 0, 0, 6}, {10, 4, 100, 0, -5, 6}, {10, 4, 0, 0, 0, 6}, {10, 12, 100, 100, 100, 0}, {10, 0, 100, 0, 101, 0},
	} {
		if got := sweep.Need(x.spans, x.swept, x.began, x.now, x.goal); got != x.want {
			t.Errorf("26.1: Need(%d, %d, %d, %d, %d): %d, not %d", x.spans, x.swept, x.began, x.now, x.goal, got, x.want)
		}
	}
}

// 26.1: numbers below 0 count as 0, those above 2^31 as that.
func TestNeedBeyond(t *testing.T) {
	for _, x := range []struct {
		spans, swept     int
		began, now, goal int64
		want             int
	}{
		{-1, 0, 0, 5, 10, 0}, {math.MinInt, math.MinInt, 0, 5, 0, 0}, {-4, -9, 0, 5, 10, 0},
		{10, -1, 0, 5, 10, 5}, {10, math.MinInt, 0, 10, 10, 10}, {10, math.MinInt, 0, 0, 0, 10},
		{10, 0, -10, 0, 10, 0}, {10, 0, -10, 5, 10, 5}, {10, 0, math.MinInt64, 5, 10, 5}, {10, 0, -10, -5, 10, 0}, {10, 0, -10, -5, -1, 10}, {10, 2, -10, 5, 0, 8},
		{most, 0, 0, 1, 2, most / 2}, {most + 1, 0, 0, 1, 2, most / 2}, {math.MaxInt, 0, 0, 1, 2, most / 2}, {math.MaxInt, most, 0, 2, 2, 0}, {math.MaxInt, most - 3, 0, 2, 2, 3}, {math.MaxInt, math.MaxInt, 0, 2, 0, 0},
		{most, 0, 0, most, most, most}, {most, 0, 0, most - 1, most, most - 1}, {most, 0, 0, 1, most, 1}, {most, 0, 1, most, most, most}, {most, most - 1, 0, most, most, 1},
		{4, 0, 0, top, top, 4}, {4, 0, 0, most / 2, top, 2}, {4, 0, 0, most/2 + 1, top, 3}, {4, 0, 0, most / 2, most, 2},
		{4, 0, most, most, most + 1, 4}, {4, 0, most + 1, most + 2, top, 4}, {4, 1, top, top, top, 3}, {4, 0, most - 1, most - 1, top, 0}, {4, 0, most - 2, most - 1, top, 2}, {4, 0, most - 1, top, top, 4},
	} {
		if got := sweep.Need(x.spans, x.swept, x.began, x.now, x.goal); got != x.want {
			t.Errorf("26.1: Need(%d, %d, %d, %d, %d): %d, not %d", x.spans, x.swept, x.began, x.now, x.goal, got, x.want)
		}
	}
}

// number is one of any size, many of them small or at a bound.
func number(r *rand.Rand) int64 {
	switch r.Intn(10) {
	case 0:
		return most + int64(r.Intn(5)) - 2
	case 1:
		return int64(r.Intn(7)) - 3
	case 2:
		return r.Int63() - r.Int63()
	}
	return r.Int63n(1 << (1 + r.Intn(33)))
}

// 26.1: Need and Even of small numbers, all of them, and of others by chance, against numbers without ends.
func TestAll(t *testing.T) {
	held := func(spans, swept int, began, now, goal int64) {
		t.Helper()
		if got, want := sweep.Need(spans, swept, began, now, goal), need(spans, swept, began, now, goal); got != want {
			t.Fatalf("26.1: Need(%d, %d, %d, %d, %d): %d, not %d", spans, swept, began, now, goal, got, want)
		}
		if got, want := sweep.Even(spans, began, goal), even(spans, began, goal); got != want {
			t.Fatalf("26.1: Even(%d, %d, %d): %d, not %d", spans, began, goal, got, want)
		}
	}
	for n := range 9 * 9 * 9 * 9 * 9 {
		at := func(by int) int { return n/by%9 - 1 }
		held(at(1), at(9), int64(at(81)), int64(at(729)), int64(at(6561)))
	}
	r := rand.New(rand.NewSource(26))
	for range 300000 {
		held(int(number(r)), int(number(r)), number(r), number(r), number(r))
	}
}

// 26.1, 26.2: Need never falls as now rises, is never more than what is left, and at the goal all are swept.
func TestRises(t *testing.T) {
	r := rand.New(rand.NewSource(262))
	for range 2000 {
		spans := r.Intn(50)
		swept := r.Intn(spans + 2)
		began := int64(r.Intn(40))
		goal := began + int64(r.Intn(90)) - 10
		left := max(spans-swept, 0)
		last := 0
		for now := began - 3; now < max(goal, began)+5; now++ {
			n := sweep.Need(spans, swept, began, now, goal)
			if n < last || n > left {
				t.Fatalf("26.1: Need(%d, %d, %d, %d, %d): %d behind %d", spans, swept, began, now, goal, n, last)
			}
			if now >= goal && n != left {
				t.Fatalf("26.2: Need(%d, %d, %d, %d, %d): %d at the goal", spans, swept, began, now, goal, n)
			}
			last = n
		}
	}
}

// 26.2: who sweeps each time what is needed has swept all as the goal is reached, and never more than the line and one.
func TestInStep(t *testing.T) {
	r := rand.New(rand.NewSource(263))
	for range 500 {
		spans := r.Intn(200)
		began, room := int64(r.Intn(1000)), int64(1+r.Intn(500))
		swept := 0
		now := began
		for now < began+room {
			now += int64(r.Intn(20))
			swept += sweep.Need(spans, swept, began, now, began+room)
			line := int64(spans) * min(now-began, room)
			if int64(swept)*room < line || int64(swept-1)*room >= line && swept > 0 {
				t.Fatalf("26.2: at %d words of %d, %d spans of %d are swept", now-began, room, swept, spans)
			}
		}
		if swept != spans {
			t.Fatalf("26.2: at the goal %d spans of %d are swept", swept, spans)
		}
	}
}

// 26.1: Even by hand, of the same bounds: Max, if the goal is not above the beginning.
func TestEven(t *testing.T) {
	for _, x := range []struct {
		spans       int
		began, goal int64
		want        int64
	}{
		{10, 100, 200, one / 10}, {10, 0, 10, one}, {10, 5, 10, 2 * one}, {1, 0, 3, one / 3}, {2, 0, 3, 2 * one / 3}, {0, 0, 5, 0}, {1, 0, most, 0}, {1, 0, one, 1}, {1, 0, one + 1, 0},
		{10, 100, 100, fix.Max}, {10, 100, 99, fix.Max}, {10, 100, -5, fix.Max}, {0, 100, 100, fix.Max}, {0, 0, 0, fix.Max}, {-5, 7, 7, fix.Max},
		{-1, 0, 10, 0}, {math.MinInt, 0, 10, 0}, {10, -10, 10, one}, {10, math.MinInt64, 10, one}, {10, -10, -5, fix.Max}, {10, math.MinInt64, math.MinInt64 + 1, fix.Max},
		{most, 0, 1, most * one}, {most + 1, 0, 1, most * one}, {math.MaxInt, 0, 1, most * one}, {math.MaxInt, 0, 2, most / 2 * one},
		{most, 0, most, one}, {most, 0, most + 1, one}, {most, 0, top, one}, {4, most - 4, top, one}, {4, most, most + 1, fix.Max}, {4, most + 1, top, fix.Max}, {4, top, top, fix.Max},
	} {
		if got := sweep.Even(x.spans, x.began, x.goal); got != x.want {
			t.Errorf("26.1: Even(%d, %d, %d): %d, not %d", x.spans, x.began, x.goal, got, x.want)
		}
	}
}
