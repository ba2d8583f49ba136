package pacer_test

import (
	"math"
	"math/big"
	"math/rand"
	"testing"

	"treadmill/api"
	"treadmill/fix"
	"treadmill/pacer"
)

const (
	one = 1 << 20
	all = 1 << 24 // MaxWords
	top = math.MaxInt64
)

// to is a number without ends as it is, or the bound that it is beyond.
func to(x *big.Int, least, most int64) int64 {
	if low := big.NewInt(least); x.Cmp(low) < 0 {
		return least
	}
	if high := big.NewInt(most); x.Cmp(high) > 0 {
		return most
	}
	return x.Int64()
}

// ratio is 23.2's, of numbers without ends.
func ratio(scan, trigger, goal int64) int64 {
	if scan < 0 {
		scan = 0
	}
	work := to(new(big.Int).Add(big.NewInt(scan), big.NewInt(64)), 0, top)
	room := to(new(big.Int).Sub(big.NewInt(goal), big.NewInt(trigger)), 1, top)
	parts := big.NewInt(one)
	upper := to(new(big.Int).Mul(big.NewInt(work), parts), 0, top)
	lower := to(new(big.Int).Mul(big.NewInt(room), parts), 0, top)
	by := new(big.Int).Mul(big.NewInt(upper), parts)
	return to(by.Quo(by, big.NewInt(lower)), one/8, 64*one)
}

// goal is 23.1's, bound by bound.
func goal(live, words, percent int, on bool) api.Goal {
	if words < 0 {
		words = 0
	} else if words > all {
		words = all
	}
	if !on {
		return api.Goal{Trigger: int64(words), Goal: int64(words)}
	}
	if live < 0 {
		live = 0
	} else if live > words {
		live = words
	}
	if percent < 0 {
		percent = 0
	} else if percent > 10000 {
		percent = 10000
	}
	aim := live + live*percent/100
	if aim < words/4 {
		aim = words / 4
	}
	if aim > words/2+live/2 {
		aim = words/2 + live/2
	}
	if aim > words {
		aim = words
	}
	begin := live
	if aim > live {
		begin += (aim - live) * 3 / 4
	}
	if begin > aim {
		begin = aim
	}
	return api.Goal{Trigger: int64(begin), Goal: int64(aim), Ratio: ratio(int64(live), int64(begin), int64(aim))}
}

// 23.1: the document's example.
func TestExample(t *testing.T) {
	if got := pacer.Goal(0, 1024, 100, true); got.Goal != 256 || got.Trigger != 192 || got.Ratio != one {
		t.Errorf("23.1: Goal: %v", got)
	}
}

// 23.1: goals by hand: of an empty heap, a full one, and at each bound.
func TestGoal(t *testing.T) {
	if api.MaxWords != all || fix.One != one {
		t.Fatalf("MaxWords is %d, One %d", api.MaxWords, fix.One)
	}
	for _, x := range []struct {
		live, words, percent int
		want                 api.Goal // Trigger, Goal, Ratio
	}{
		{0, 1024, 0, api.Goal{Trigger: 192, Goal: 256, Ratio: one}},
		{0, 1024, 10000, api.Goal{Trigger: 192, Goal: 256, Ratio: one}},
		{1024, 1024, 100, api.Goal{Trigger: 1024, Goal: 1024, Ratio: 64 * one}},
		{1023, 1024, 100, api.Goal{Trigger: 1023, Goal: 1023, Ratio: 64 * one}},
		{1022, 1024, 100, api.Goal{Trigger: 1022, Goal: 1023, Ratio: 64 * one}},
		{512, 1024, 100, api.Goal{Trigger: 704, Goal: 768, Ratio: 9 * one}},
		{300, 1024, 100, api.Goal{Trigger: 525, Goal: 600, Ratio: 364 * one / 75}},
		{100, 1024, 0, api.Goal{Trigger: 217, Goal: 256, Ratio: 164 * one / 39}},
		{256, 1024, 0, api.Goal{Trigger: 256, Goal: 256, Ratio: 64 * one}},
		{300, 1024, 0, api.Goal{Trigger: 300, Goal: 300, Ratio: 64 * one}},
		{300, 1024, 33, api.Goal{Trigger: 374, Goal: 399, Ratio: 364 * one / 25}},
		{301, 1024, 33, api.Goal{Trigger: 375, Goal: 400, Ratio: 365 * one / 25}},
		{200, 1024, 28, api.Goal{Trigger: 242, Goal: 256, Ratio: 264 * one / 14}},
		{128, 1024, 100, api.Goal{Trigger: 224, Goal: 256, Ratio: 6 * one}},
		{129, 1024, 100, api.Goal{Trigger: 225, Goal: 258, Ratio: 193 * one / 33}},
		{341, 1024, 100, api.Goal{Trigger: 596, Goal: 682, Ratio: 405 * one / 86}},
		{342, 1024, 100, api.Goal{Trigger: 597, Goal: 683, Ratio: 406 * one / 86}},
		{343, 1024, 100, api.Goal{Trigger: 598, Goal: 683, Ratio: 407 * one / 85}},
		{0, all, 100, api.Goal{Trigger: all / 16 * 3, Goal: all / 4, Ratio: one / 8}},
		{all, all, 100, api.Goal{Trigger: all, Goal: all, Ratio: 64 * one}},
		{all / 2, all, 10000, api.Goal{Trigger: all / 16 * 11, Goal: all / 4 * 3, Ratio: (all/2 + 64) * one / (all / 16)}},
		{7, 7, 100, api.Goal{Trigger: 6, Goal: 6, Ratio: 64 * one}}, // a half and a half are less than the whole
		{5, 7, 100, api.Goal{Trigger: 5, Goal: 5, Ratio: 64 * one}},
		{3, 7, 100, api.Goal{Trigger: 3, Goal: 4, Ratio: 64 * one}},
		{0, 0, 100, api.Goal{Trigger: 0, Goal: 0, Ratio: 64 * one}},
		{0, 3, 100, api.Goal{Trigger: 0, Goal: 0, Ratio: 64 * one}},
		{1, 1, 100, api.Goal{Trigger: 0, Goal: 0, Ratio: 64 * one}},
	} {
		if got := pacer.Goal(x.live, x.words, x.percent, true); got != x.want {
			t.Errorf("23.1: Goal(%d, %d, %d, true): %v, not %v", x.live, x.words, x.percent, got, x.want)
		}
	}
}

// 23.1: live, words and percent beyond their bounds are taken into them.
func TestGoalBeyond(t *testing.T) {
	for _, x := range []struct{ live, words, percent, as, of, by int }{
		{-1, 1024, 100, 0, 1024, 100}, {math.MinInt, 1024, 100, 0, 1024, 100},
		{1025, 1024, 50, 1024, 1024, 50}, {math.MaxInt, 1024, 50, 1024, 1024, 50},
		{300, -1, 100, 0, 0, 100}, {300, math.MinInt, 100, 0, 0, 100}, {-9, -9, -9, 0, 0, 0},
		{300, all + 1, 100, 300, all, 100}, {300, math.MaxInt, 100, 300, all, 100}, {math.MaxInt, math.MaxInt, 100, all, all, 100},
		{300, 1024, -1, 300, 1024, 0}, {300, 1024, math.MinInt, 300, 1024, 0},
		{3, 4096, 10001, 3, 4096, 10000}, {11, 4096, math.MaxInt, 11, 4096, 10000}, {all, all, math.MaxInt, all, all, 10000},
	} {
		for _, on := range []bool{true, false} {
			got, want := pacer.Goal(x.live, x.words, x.percent, on), goal(x.as, x.of, x.by, on)
			if got != want {
				t.Errorf("23.1: Goal(%d, %d, %d, %v): %v, not %v", x.live, x.words, x.percent, on, got, want)
			}
		}
	}
	if low, high := pacer.Goal(11, 4096, 10000, true), pacer.Goal(11, 4096, 9999, true); low.Goal != 1111 || high.Goal != 1110 {
		t.Errorf("23.1: Goal at the greatest percent: %v, and one less: %v", low, high)
	}
}

// 23.1: of a collector that is off all words are the goal, and nothing is to be scanned.
func TestOff(t *testing.T) {
	for _, words := range []int{-1, 0, 1, 256, 1024, all - 1, all, all + 1, math.MaxInt, math.MinInt} {
		is := int64(min(max(words, 0), all))
		for _, live := range []int{-1, 0, 100, 1024, math.MaxInt} {
			for _, percent := range []int{-1, 0, 100, 10000} {
				if got := pacer.Goal(live, words, percent, false); got != (api.Goal{Trigger: is, Goal: is}) {
					t.Errorf("23.1: Goal(%d, %d, %d, false): %v", live, words, percent, got)
				}
			}
		}
	}
}

// 23.1: goals of small heaps, all of them, and of great ones by chance, against the bounds one by one.
func TestGoals(t *testing.T) {
	held := func(live, words, percent int) {
		t.Helper()
		if got, want := pacer.Goal(live, words, percent, true), goal(live, words, percent, true); got != want {
			t.Fatalf("23.1: Goal(%d, %d, %d, true): %v, not %v", live, words, percent, got, want)
		}
	}
	for words := range 70 {
		for live := range words + 2 {
			for _, percent := range []int{0, 1, 33, 50, 99, 100, 101, 400, 10000} {
				held(live, words, percent)
			}
		}
	}
	r := rand.New(rand.NewSource(231))
	for range 100000 {
		words := r.Intn(1 << (1 + r.Intn(25)))
		held(r.Intn(words+2), words, r.Intn(1<<(1+r.Intn(15))))
	}
}

// 23.3: goals stand between a quarter of the heap and the whole, triggers at most at them, and Ratio in its bounds.
func TestBetween(t *testing.T) {
	r := rand.New(rand.NewSource(233))
	for range 100000 {
		words := r.Intn(1 << (1 + r.Intn(25)))
		got := pacer.Goal(r.Intn(2*words+2)-5, words, r.Intn(20000)-100, r.Intn(8) > 0)
		is := int64(min(words, all))
		if got.Goal < is/4 || got.Goal > is || got.Trigger > got.Goal || got.Trigger < 0 || got.Ratio < 0 || got.Ratio > 64*one {
			t.Fatalf("23.3: of %d words: %v", words, got)
		}
	}
}

// 23.3: more that lives, or more percent, never brings a lesser Goal.
func TestNeverLess(t *testing.T) {
	for _, words := range []int{0, 1, 7, 256, 1023, 1024, 4096} {
		for _, percent := range []int{-1, 0, 1, 50, 99, 100, 101, 300, 10000, 10001} {
			last := int64(0)
			for live := -2; live < words+3; live++ {
				got := pacer.Goal(live, words, percent, true)
				if got.Goal < last {
					t.Fatalf("23.3: Goal(%d, %d, %d, true): %v, less than of one word less", live, words, percent, got)
				}
				last = got.Goal
			}
		}
		for _, live := range []int{-1, 0, 1, 3, 100, 255, 256, 257, 700, 1024, 5000} {
			last := int64(0)
			for percent := -2; percent < 10003; percent++ {
				got := pacer.Goal(live, words, percent, true)
				if got.Goal < last {
					t.Fatalf("23.3: Goal(%d, %d, %d, true): %v, less than of one percent less", live, words, percent, got)
				}
				last = got.Goal
			}
		}
	}
}

// 23.2: ratios by hand: at and beside the bounds, goal at, below and above trigger, scan below 0.
func TestRatio(t *testing.T) {
	for _, x := range []struct{ scan, trigger, goal, want int64 }{
		{0, 192, 256, one}, {0, 0, 64, one}, {36, 100, 200, one}, {36, 100, 300, one / 2}, {0, 0, 3, 64 * one / 3}, {36, 0, 3, 100 * one / 3},
		{0, 0, 512, one / 8}, {0, 0, 513, one / 8}, {0, 0, 511, 64 * one / 511}, {0, 0, top, one / 8}, {0, -1, top, one / 8},
		{1, 0, 520, one / 8}, {1, 0, 519, 65 * one / 519}, {1, 0, 521, one / 8},
		{0, 7, 8, 64 * one}, {1, 7, 8, 64 * one}, {64, 0, 2, 64 * one}, {63, 0, 2, 127 * one / 2}, {65, 0, 2, 64 * one},
		{6336, 0, 100, 64 * one}, {6335, 0, 100, 6399 * one / 100}, {6337, 0, 100, 64 * one},
		{0, 8, 8, 64 * one}, {0, 9, 8, 64 * one}, {0, top, 0, 64 * one}, {0, top, -top, 64 * one}, {0, math.MaxInt64, math.MinInt64, 64 * one},
		{-1, 0, 64, one}, {-64, 0, 64, one}, {-1000, 0, 128, one / 2}, {math.MinInt64, 0, 64, one},
		{top, 0, 1, 64 * one}, {top, 0, top, one}, {top - 64, 0, top, one}, {top, math.MinInt64, top, one}, {0, math.MinInt64, top, one / 8},
		{1 << 43, 0, 1 << 43, one}, {1 << 50, 0, 1 << 43, one}, {1 << 42, 0, 1 << 43, one / 2},
	} {
		if got := pacer.Ratio(x.scan, x.trigger, x.goal); got != x.want {
			t.Errorf("23.2: Ratio(%d, %d, %d): %d, not %d", x.scan, x.trigger, x.goal, got, x.want)
		}
	}
}

// 23.2: ratios of numbers of all sizes, against numbers without ends.
func TestRatios(t *testing.T) {
	r := rand.New(rand.NewSource(232))
	number := func() int64 {
		switch r.Intn(12) {
		case 0:
			return top - r.Int63n(100)
		case 1:
			return math.MinInt64 + r.Int63n(100)
		}
		n := r.Int63n(1 << (1 + r.Intn(62)))
		if r.Intn(4) == 0 {
			return -n
		}
		return n
	}
	for range 200000 {
		scan, trigger, goal := number(), number(), number()
		if got, want := pacer.Ratio(scan, trigger, goal), ratio(scan, trigger, goal); got != want {
			t.Fatalf("23.2: Ratio(%d, %d, %d): %d, not %d", scan, trigger, goal, got, want)
		}
	}
}

// 23.2: Begin at the trigger, one word ahead of it and one behind, and of Ratio 0 never.
func TestBegin(t *testing.T) {
	for _, trigger := range []int64{0, 1, 192, all, top - 1} {
		for _, goal := range []int64{0, trigger, top} {
			for _, ratio := range []int64{1, one / 8, one, 64 * one, top} {
				g := api.Goal{Trigger: trigger, Goal: goal, Ratio: ratio}
				if !pacer.Begin(g, int(trigger)) || !pacer.Begin(g, int(trigger)+1) || !pacer.Begin(g, math.MaxInt) {
					t.Errorf("23.2: Begin(%v) at the trigger: false", g)
				}
				if pacer.Begin(g, int(trigger)-1) || pacer.Begin(g, math.MinInt) {
					t.Errorf("23.2: Begin(%v) ahead of the trigger: true", g)
				}
			}
			for _, ratio := range []int64{0, -1, math.MinInt64} {
				g := api.Goal{Trigger: trigger, Goal: goal, Ratio: ratio}
				if pacer.Begin(g, int(trigger)) || pacer.Begin(g, math.MaxInt) || pacer.Begin(g, 0) {
					t.Errorf("23.2: Begin(%v): true", g)
				}
			}
		}
	}
	if g := (api.Goal{Trigger: math.MinInt64, Ratio: 1}); !pacer.Begin(g, math.MinInt) || !pacer.Begin(g, 0) {
		t.Error("23.2: Begin of a trigger below 0: false")
	}
	for _, on := range []bool{true, false} {
		g := pacer.Goal(300, 1024, 100, on)
		if pacer.Begin(g, 525) != on || pacer.Begin(g, 1024) != on || pacer.Begin(g, 524) {
			t.Errorf("23.2: Begin(%v)", g)
		}
	}
}
