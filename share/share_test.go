package share_test

import (
	"math"
	"math/big"
	"math/rand"
	"testing"

	"treadmill/api"
	"treadmill/fix"
	"treadmill/share"
)

const (
	one  = 1 << 20
	most = 1 << 40 // steps
)

// parts are those at and beside what 24.1 names.
func parts() []int64 {
	return []int64{math.MinInt64, -one, -1, 0, 1, one / 64, one/4 - 1, one / 4, one/4 + 1, one / 3, one/3 + 1, one / 2, 3 * one / 4, one - 1, one, one + 1, 2 * one, 1 << 43, math.MaxInt64}
}

// workers is 24.1's, of whole numbers: ps and part in their bounds, their product parted into whole numbers and what is left.
func workers(ps int, part int64) (int, int64) {
	if ps < 1 {
		ps = 1
	} else if ps > 64 {
		ps = 64
	}
	if part < 0 {
		part = 0
	} else if part > one {
		part = one
	}
	work := int64(ps) * part
	return int(work / one), work % one / int64(ps)
}

// may is 24.1's, of numbers without ends.
func may(worked, all, part int64) bool {
	number := func(n int64) *big.Int {
		if n < 0 {
			n = 0
		} else if n > most {
			n = most
		}
		return new(big.Int).Mul(big.NewInt(n+1), big.NewInt(one))
	}
	product := new(big.Int).Mul(number(all), big.NewInt(part))
	product.Div(product, big.NewInt(one)) // rounds down, for one is above 0
	if part < 0 {
		return false
	}
	return !product.IsInt64() || product.Cmp(number(worked)) >= 0
}

// 24.1: the document's examples.
func TestExample(t *testing.T) {
	if n, left := share.Workers(4, one/4); n != 1 || left != 0 {
		t.Errorf("24.1: Workers(4, One / 4): %d, %d", n, left)
	}
	if n, left := share.Workers(1, one/4); n != 0 || left != one/4 {
		t.Errorf("24.1: Workers(1, One / 4): %d, %d", n, left)
	}
}

// 24.1: Workers by hand, ps and part at and beyond their bounds.
func TestWorkers(t *testing.T) {
	if api.MaxPs != 64 || fix.One != one {
		t.Fatalf("MaxPs is %d, One %d", api.MaxPs, fix.One)
	}
	for _, x := range []struct {
		ps      int
		part    int64
		workers int
		left    int64
	}{
		{1, 0, 0, 0}, {4, 0, 0, 0}, {64, 0, 0, 0}, {4, -1, 0, 0}, {64, -one, 0, 0}, {64, math.MinInt64, 0, 0},
		{0, one / 4, 0, one / 4}, {-1, one / 4, 0, one / 4}, {math.MinInt, one / 4, 0, one / 4}, {0, one, 1, 0}, {-5, one, 1, 0},
		{2, one / 4, 0, one / 4}, {3, one / 4, 0, one / 4}, {4, one / 4, 1, 0}, {5, one / 4, 1, one / 20}, {6, one / 4, 1, one / 12}, {7, one / 4, 1, 3 * one / 28}, {8, one / 4, 2, 0}, {64, one / 4, 16, 0},
		{65, one / 4, 16, 0}, {68, one / 4, 16, 0}, {math.MaxInt, one / 4, 16, 0}, {65, one, 64, 0},
		{1, one / 3, 0, one / 3}, {2, one / 3, 0, one / 3}, {3, one / 3, 0, (one - 1) / 3}, {4, one / 3, 1, one / 12}, {64, one / 3, 21, (one/3*64 - 21*one) / 64},
		{3, one/3 + 1, 1, 0}, {4, one/4 - 1, 0, one/4 - 1}, {4, one/4 + 1, 1, 1}, {5, one/4 - 1, 1, (one/4 - 5) / 5},
		{1, one - 1, 0, one - 1}, {2, one - 1, 1, one/2 - 1}, {64, one - 1, 63, (one - 64) / 64},
		{1, one, 1, 0}, {4, one, 4, 0}, {64, one, 64, 0}, {4, one + 1, 4, 0}, {4, 2 * one, 4, 0}, {4, math.MaxInt64, 4, 0}, {1, math.MaxInt64, 1, 0},
	} {
		if n, left := share.Workers(x.ps, x.part); n != x.workers || left != x.left {
			t.Errorf("24.1: Workers(%d, %d): %d, %d, not %d, %d", x.ps, x.part, n, left, x.workers, x.left)
		}
	}
}

// 24.1: Workers of all Ps and many parts, against whole numbers; Dedicated of each P, and of those beside them.
func TestDedicated(t *testing.T) {
	all := parts()
	r := rand.New(rand.NewSource(24))
	for range 300 {
		all = append(all, r.Int63n(one+1))
	}
	for ps := -1; ps <= 66; ps++ {
		for _, part := range all {
			want, rest := workers(ps, part)
			if n, left := share.Workers(ps, part); n != want || left != rest {
				t.Fatalf("24.1: Workers(%d, %d): %d, %d, not %d, %d", ps, part, n, left, want, rest)
			}
			for _, p := range []int{math.MinInt, -2, -1, 64, 65, 66, 1 << 32, math.MaxInt} {
				if share.Dedicated(p, ps, part) {
					t.Fatalf("24.1: Dedicated(%d, %d, %d): true", p, ps, part)
				}
			}
			for p := range 64 {
				if share.Dedicated(p, ps, part) != (p < want) {
					t.Fatalf("24.1: Dedicated(%d, %d, %d), of %d that are", p, ps, part, want)
				}
			}
		}
	}
}

// 24.1: May by hand: at just the part, and one step beyond; numbers beyond their bounds; a part as it is.
func TestMay(t *testing.T) {
	for _, x := range []struct {
		worked, all, part int64
		want              bool
	}{
		{0, 3, one / 4, true}, {0, 2, one / 4, false}, {0, 4, one / 4, true}, {1, 3, one / 4, false}, {1, 6, one / 4, false}, {1, 7, one / 4, true}, {24, 99, one / 4, true}, {25, 99, one / 4, false}, {24, 98, one / 4, false},
		{0, 3, one/4 - 1, false}, {0, 4, one/4 - 1, true}, {0, 3, one/4 + 1, true}, {0, 2, one/4 + 1, false},
		{0, 2, one / 3, false}, {0, 3, one / 3, true}, {0, 2, one/3 + 1, true}, {0, 1, one / 2, true}, {1, 1, one / 2, false},
		{0, 0, one, true}, {5, 5, one, true}, {6, 5, one, false}, {0, 0, one - 1, false}, {0, 1, one - 1, true},
		{0, 0, 0, false}, {0, most, 0, false}, {0, most, 1, true}, {0, one - 1, 1, true}, {0, one - 2, 1, false}, {1, 2*one - 1, 1, true}, {1, 2*one - 2, 1, false},
		{0, 0, -1, false}, {0, most, -1, false}, {-9, most, -one, false}, {0, 0, math.MinInt64, false}, {0, most, math.MinInt64, false},
		{1, 0, 2 * one, true}, {2, 0, 2 * one, false}, {2, 1, 2 * one, true}, {3, 1, 2 * one, true}, {4, 1, 2 * one, false}, {most, 0, math.MaxInt64, true}, {0, 0, math.MaxInt64, true},
		{-1, 3, one / 4, true}, {math.MinInt64, 3, one / 4, true}, {-1, 2, one / 4, false}, {0, -1, one, true}, {0, math.MinInt64, one, true}, {1, -1, one, false}, {1, -1, 2 * one, true}, {2, -5, 2 * one, false},
		{most, most, one, true}, {most, most - 1, one, false}, {most + 1, most, one, true}, {math.MaxInt64, most, one, true}, {math.MaxInt64, math.MaxInt64, one, true}, {most, math.MaxInt64, one - 1, false},
		{most - 1, most + 5, one, true}, {most / 4, math.MaxInt64, one / 4, false}, {most/4 - 1, math.MaxInt64, one / 4, true}, {most/4 - 1, most, one / 4, true}, {most/4 - 1, most - 2, one / 4, false}, {most/4 - 1, most - 1, one / 4, true},
	} {
		if got := share.May(x.worked, x.all, x.part); got != x.want {
			t.Errorf("24.1: May(%d, %d, %d): %v", x.worked, x.all, x.part, got)
		}
	}
}

// 24.1: May of numbers of all sizes, most of them near the part, against numbers without ends.
func TestMays(t *testing.T) {
	r := rand.New(rand.NewSource(241))
	for range 200000 {
		part := parts()[r.Intn(len(parts()))]
		if r.Intn(2) == 0 {
			part = r.Int63n(1 << (1 + r.Intn(62)))
		}
		all := r.Int63n(1<<(1+r.Intn(41))) - 2
		worked := all
		if part > 0 && part < one {
			worked = int64(float64(all)*float64(part)/one) + int64(r.Intn(5)) - 2
		} else if r.Intn(2) == 0 {
			worked = r.Int63()
		}
		if got := share.May(worked, all, part); got != may(worked, all, part) {
			t.Fatalf("24.1: May(%d, %d, %d): %v", worked, all, part, got)
		}
	}
}

// 24.1: who works whenever they may never falls behind the part by more than one step, nor comes ahead of it.
func TestGreedy(t *testing.T) {
	for _, part := range []int64{0, 1, 1000, one / 64, one/4 - 1, one / 4, one/4 + 1, one / 3, one / 2, 3 * one / 4, one - 1, one} {
		worked := int64(0)
		for all := range int64(5000) {
			if share.May(worked, all, part) {
				worked++
			}
			has, due := worked*one, (all+1)*part
			if has > due || due-has >= one {
				t.Fatalf("24.1: of part %d: %d of %d steps", part, worked, all+1)
			}
		}
	}
}

// 24.2: together the workers have the part, but for one step each: never more, and, where 24.1's words let them have all of it (what is left goes to the other Ps by the number of all Ps), not less by more than that, and what is lost as it is cut down.
func TestTogether(t *testing.T) {
	const steps = 2000
	for _, ps := range []int{1, 2, 3, 4, 5, 7, 16, 64} {
		for _, part := range []int64{0, one / 64, one / 5, one / 4, one / 3, one / 2, 2 * one / 3, one - 1, one} {
			alone, left := share.Workers(ps, part)
			together := int64(0)
			for p := range ps {
				worked := int64(0)
				for all := range int64(steps) {
					if share.Dedicated(p, ps, part) || share.May(worked, all, left) {
						worked++
					}
				}
				together += worked
			}
			others := int64(ps - alone)
			has, due := together*one, (int64(alone)*one+others*left)*steps
			if has > due || has <= due-others*one && others > 0 {
				t.Errorf("24.2: %d Ps of part %d have %d of %d steps", ps, part, together, ps*steps)
			}
			whole := int64(ps) * part * steps
			if has > whole || (alone == 0 || left == 0) && has < whole-int64(ps)*(one+steps) {
				t.Errorf("24.2: %d Ps of part %d have %d of %d steps", ps, part, together, ps*steps)
			}
		}
	}
}
