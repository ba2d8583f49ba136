package conf

import (
	"math"
	"math/big"
	"math/rand"
	"sort"
	"testing"

	"treadmill/api"
	"treadmill/fix"
)

var (
	nan     = math.NaN()
	inf     = math.Inf(1)
	minus   = math.Inf(-1)
	zero    = math.Copysign(0, -1)
	tiny    = math.SmallestNonzeroFloat64
	justOff = math.Nextafter(0, -1) // just below 0
)

// above and below are the floats next to x.
func above(x float64) float64 { return math.Nextafter(x, inf) }
func below(x float64) float64 { return math.Nextafter(x, minus) }

// floats: all edges that 2.1 names, both sides of many whole numbers and of many parts of 2^20, and some of all kinds.
func floats() []float64 {
	l := []float64{nan, math.Copysign(nan, -1), inf, minus, 0, zero, tiny, -tiny, math.MaxFloat64, -math.MaxFloat64}
	edges := []float64{1.0 / 64, 0.25, 0.5, 1, 2, 99, 100, 101, 9999, 10000, 10001, 1 << 31, 1 << 43, 1 << 53, 1 << 63, 1 << 64}
	for i := range 70 {
		edges = append(edges, float64(i), float64(i*149), (16384.0+float64(i))/fix.One, (float64(i)*15000)/fix.One)
	}
	for _, x := range edges {
		l = append(l, x, above(x), below(x), -x, above(-x), below(-x))
	}
	r := rand.New(rand.NewSource(1))
	for range 500 {
		l = append(l, math.Float64frombits(r.Uint64()), r.Float64(), r.Float64()*10001, math.Ldexp(r.Float64()-0.5, r.Intn(80)-30))
	}
	return l
}

// floor is the greatest whole number that is not above x times by (x finite, not below 0), made of fractions without ends.
func floor(x float64, by int64) *big.Int {
	r := new(big.Rat).SetFloat64(x)
	r.Mul(r, big.NewRat(by, 1))
	return new(big.Int).Div(r.Num(), r.Denom())
}

// wantPercent is what 2.1 says of Percent.
func wantPercent(f float64) (int, bool) {
	switch {
	case math.IsNaN(f):
		return 100, true
	case math.IsInf(f, 0), f != 0 && math.Signbit(f):
		return 0, false
	}
	if n := floor(f, 1); n.Cmp(big.NewInt(10000)) < 0 {
		return int(n.Int64()), true
	}
	return 10000, true
}

// wantPart is what 2.1 says of Part.
func wantPart(f float64) int64 {
	if math.IsNaN(f) {
		return 262144
	}
	if math.IsInf(f, 1) {
		return 1048576
	}
	if math.Signbit(f) {
		return 16384
	}
	n := floor(f, 1<<20)
	switch {
	case n.Cmp(big.NewInt(16384)) < 0:
		return 16384
	case n.Cmp(big.NewInt(1048576)) > 0:
		return 1048576
	}
	return n.Int64()
}

// 2.1: May, of both bounds, both sides, and what is no multiple.
func TestMay(t *testing.T) {
	const most = 1 << 24
	for _, x := range []struct {
		ps, words int
		want      bool
	}{
		{1, 256, true}, {64, 256, true}, {1, most, true}, {64, most, true}, {4, 1024, true}, {2, 320, true}, {63, most - 64, true},
		{0, 256, false}, {65, 256, false}, {-1, 256, false}, {math.MinInt, 256, false}, {math.MaxInt, 256, false},
		{1, 255, false}, {1, 192, false}, {1, 64, false}, {1, 0, false}, {1, -64, false}, {1, -256, false}, {1, math.MinInt, false},
		{1, 257, false}, {1, 288, false}, {1, 319, false}, {1, 321, false}, {1, most - 1, false}, {1, most - 32, false},
		{1, most + 1, false}, {1, most + 64, false}, {1, 2 * most, false}, {1, math.MaxInt - 63, false}, {1, math.MaxInt, false},
		{0, 0, false}, {65, 255, false},
	} {
		if got := May(api.Config{Ps: x.ps, Words: x.words, Percent: 100, Part: 0.25}); got != x.want {
			t.Errorf("2.1: May of %d Ps, %d words: %v", x.ps, x.words, got)
		}
	}
	for words := -300; words < 2000; words++ {
		want := words == 256 || words > 256 && words/64*64 == words
		if got := May(api.Config{Ps: 1, Words: words}); got != want {
			t.Errorf("2.1: May of %d words: %v", words, got)
		}
	}
	for ps := -100; ps < 200; ps++ {
		if got, want := May(api.Config{Ps: ps, Words: 256}), ps > 0 && ps < 65; got != want {
			t.Errorf("2.1: May of %d Ps: %v", ps, got)
		}
	}
}

// 2.1: May asks nothing of the floats.
func TestMayFloats(t *testing.T) {
	for _, f := range floats() {
		if !May(api.Config{Ps: 1, Words: 256, Percent: f, Part: f}) {
			t.Errorf("2.1: May with floats %v: false", f)
		}
		if May(api.Config{Ps: 0, Words: 256, Percent: f, Part: f}) {
			t.Errorf("2.1: May of no Ps with floats %v: true", f)
		}
	}
}

// 2.1: Percent by hand.
func TestPercentTold(t *testing.T) {
	for _, x := range []struct {
		f    float64
		want int
		on   bool
	}{
		{nan, 100, true}, {math.Copysign(nan, -1), 100, true},
		{minus, 0, false}, {-math.MaxFloat64, 0, false}, {-1, 0, false}, {-0.5, 0, false}, {justOff, 0, false},
		{inf, 0, false},
		{zero, 0, true}, {0, 0, true}, {tiny, 0, true}, {0.999, 0, true}, {below(1), 0, true},
		{1, 1, true}, {above(1), 1, true}, {1.5, 1, true}, {below(2), 1, true}, {2, 2, true},
		{below(50), 49, true}, {50, 50, true}, {above(50), 50, true}, {100, 100, true}, {99.99, 99, true},
		{9999, 9999, true}, {9999.5, 9999, true}, {below(10000), 9999, true}, {10000, 10000, true}, {above(10000), 10000, true}, {10000.5, 10000, true}, {10001, 10000, true}, {1e18, 10000, true}, {1e19, 10000, true}, {1e300, 10000, true}, {math.MaxFloat64, 10000, true},
	} {
		if got, on := Percent(x.f); got != x.want || on != x.on {
			t.Errorf("2.1: Percent(%v): %d, %v", x.f, got, on)
		}
	}
}

// 2.1: Part by hand.
func TestPartTold(t *testing.T) {
	const least = 1.0 / 64
	for _, x := range []struct {
		f    float64
		want int64
	}{
		{nan, 262144}, {math.Copysign(nan, -1), 262144},
		{minus, 16384}, {-math.MaxFloat64, 16384}, {-1, 16384}, {justOff, 16384}, {zero, 16384}, {0, 16384}, {tiny, 16384}, {0.01, 16384},
		{below(least), 16384}, {least, 16384}, {above(least), 16384}, {16385.0 / (1 << 20), 16385}, {below(16385.0 / (1 << 20)), 16384}, {16384.9 / (1 << 20), 16384},
		{0.25, 262144}, {0.5, 524288}, {0.75, 786432}, {0.3, 314572},
		{below(1), 1048575}, {1, 1048576}, {above(1), 1048576}, {1.5, 1048576}, {2, 1048576}, {1 << 43, 1048576}, {math.MaxFloat64, 1048576}, {inf, 1048576},
	} {
		if got := Part(x.f); got != x.want {
			t.Errorf("2.1: Part(%v): %d, not %d", x.f, got, x.want)
		}
	}
}

// 2.1: both held against fractions without ends.
func TestAgainstBig(t *testing.T) {
	for _, f := range floats() {
		n, on := Percent(f)
		if want, too := wantPercent(f); n != want || on != too {
			t.Errorf("2.1: Percent(%v): %d, %v, not %d, %v", f, n, on, want, too)
		}
		if got, want := Part(f), wantPart(f); got != want {
			t.Errorf("2.1: Part(%v): %d, not %d", f, got, want)
		}
	}
}

// 2.1: Same by hand: what comes to the same, what does not.
func TestSameTold(t *testing.T) {
	c := api.Config{Ps: 2, Words: 512, Percent: 100, Part: 0.25}
	for i, x := range []struct {
		a, b api.Config
		want bool
	}{
		{c, c, true}, {api.Config{}, api.Config{}, true},
		{c, api.Config{Ps: 3, Words: 512, Percent: 100, Part: 0.25}, false},
		{c, api.Config{Ps: 2, Words: 576, Percent: 100, Part: 0.25}, false},
		{c, api.Config{Ps: 2, Words: 512, Percent: 101, Part: 0.25}, false},
		{c, api.Config{Ps: 2, Words: 512, Percent: 100, Part: 0.26}, false},
		{c, api.Config{Ps: 2, Words: 512, Percent: 100.5, Part: 0.25 + 1e-9}, true},
		{c, api.Config{Ps: 2, Words: 512, Percent: nan, Part: nan}, true},
		{api.Config{Percent: nan, Part: nan}, api.Config{Percent: nan, Part: nan}, true},
		{api.Config{Percent: -1}, api.Config{Percent: inf}, true},
		{api.Config{Percent: -1}, api.Config{Percent: minus}, true},
		{api.Config{Percent: 0}, api.Config{Percent: zero}, true},
		{api.Config{Percent: 0}, api.Config{Percent: justOff}, false},
		{api.Config{Percent: 0}, api.Config{Percent: inf}, false},
		{api.Config{Percent: 10000}, api.Config{Percent: 1e9}, true},
		{api.Config{Percent: 9999}, api.Config{Percent: 10000}, false},
		{api.Config{Part: minus}, api.Config{Part: 1.0 / 64}, true},
		{api.Config{Part: 0}, api.Config{Part: zero}, true},
		{api.Config{Part: 1}, api.Config{Part: inf}, true},
		{api.Config{Part: below(1)}, api.Config{Part: 1}, false},
		{api.Config{Ps: -5, Words: 3}, api.Config{Ps: -5, Words: 3}, true},
		{api.Config{Ps: 512, Words: 2}, api.Config{Ps: 2, Words: 512}, false},
	} {
		if Same(x.a, x.b) != x.want || Same(x.b, x.a) != x.want {
			t.Errorf("2.1, row %d: Same: not %v", i, x.want)
		}
	}
}

// 2.1: Same hangs on the floats by Percent and Part alone.
func TestSameByAnswers(t *testing.T) {
	l := floats()
	r := rand.New(rand.NewSource(2))
	for range 100000 {
		f, g := l[r.Intn(len(l))], l[r.Intn(len(l))]
		m, on := Percent(f)
		n, too := Percent(g)
		if got, want := Same(api.Config{Percent: f}, api.Config{Percent: g}), m == n && on == too; got != want {
			t.Fatalf("2.1: Same of percents %v, %v: %v", f, g, got)
		}
		if got, want := Same(api.Config{Part: f}, api.Config{Part: g}), Part(f) == Part(g); got != want {
			t.Fatalf("2.1: Same of parts %v, %v: %v", f, g, got)
		}
	}
}

// 2.2: along the floats' order no answer falls, but off.
func TestNeverLess(t *testing.T) {
	var l []float64
	for _, f := range floats() {
		if !math.IsNaN(f) {
			l = append(l, f)
		}
	}
	sort.Float64s(l)
	last, part := 0, int64(0)
	for _, f := range l {
		if n, on := Percent(f); on {
			if n < last {
				t.Errorf("2.2: Percent(%v): %d, below %d", f, n, last)
			}
			last = n
		} else if n != 0 {
			t.Errorf("2.2: Percent(%v): off, but %d", f, n)
		}
		n := Part(f)
		if n < part || n < 16384 || n > 1048576 {
			t.Errorf("2.2: Part(%v): %d behind %d", f, n, part)
		}
		part = n
	}
}
