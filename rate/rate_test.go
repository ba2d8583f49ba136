package rate_test

import (
	"math"
	"math/big"
	"math/rand"
	"slices"
	"testing"

	"treadmill/api"
	"treadmill/rate"
)

var (
	nan  = math.NaN()
	inf  = math.Inf(1)
	less = math.Inf(-1)
	neg  = math.Copysign(0, -1) // -0
)

// same is whether two floats are the same in all, NaN and -0 told apart.
func same(a, b float64) bool {
	if a != a || b != b {
		return a != a && b != b
	}
	return a == b && math.Signbit(a) == math.Signbit(b)
}

// rank is a float's place in the order of all: NaN, then minus infinity, and so on.
func rank(x float64) *big.Int {
	switch bits := math.Float64bits(x); {
	case x != x:
		return new(big.Int).SetInt64(math.MinInt64)
	case math.Signbit(x):
		return new(big.Int).Sub(big.NewInt(-1), new(big.Int).SetUint64(bits&^(1<<63)))
	default:
		return new(big.Int).SetUint64(bits)
	}
}

// edges are floats at which something turns.
func edges() []float64 {
	return []float64{nan, inf, less, 0, neg, 1, -1, math.MaxFloat64, -math.MaxFloat64, math.SmallestNonzeroFloat64, -math.SmallestNonzeroFloat64, 0.5, 1e300, math.Nextafter(1, 2)}
}

func TestExamples(t *testing.T) {
	if s := rate.Text(0.255); s != "26%" {
		t.Errorf("Text: %s", s)
	}
	if l := rate.Most([]float64{1, nan, 3}, 2); !slices.Equal(l, []float64{3, 1}) {
		t.Errorf("Most: %v", l)
	}
}

func TestShare(t *testing.T) {
	for _, x := range []struct {
		n, all int
		want   float64
	}{
		{0, 0, nan}, {5, 0, inf}, {-5, 0, less}, {math.MaxInt, 0, inf}, {math.MinInt, 0, less},
		{0, 7, 0}, {0, -7, neg}, {1, 4, 0.25}, {-1, 4, -0.25}, {1, -4, -0.25}, {-3, -4, 0.75}, {7, 2, 3.5}, {1, 3, 1.0 / 3},
		{math.MinInt, math.MinInt, 1}, {math.MinInt, 1, -1 << 63}, {1<<53 + 1, 1, 1 << 53}, {math.MaxInt, math.MaxInt, 1},
	} {
		if got := rate.Share(x.n, x.all); !same(got, x.want) {
			t.Errorf("31.1: Share(%d, %d): %v, not %v", x.n, x.all, got, x.want)
		}
	}
}

func TestMean(t *testing.T) {
	const ulp = 1.0 / (1 << 52)
	for _, x := range []struct {
		l    []float64
		want float64
	}{
		{nil, nan}, {[]float64{nan, nan}, nan}, {[]float64{3}, 3}, {[]float64{1, 2}, 1.5}, {[]float64{nan, 1, nan, 2, 6}, 3},
		{[]float64{neg}, 0}, {[]float64{neg, neg}, 0}, {[]float64{-1, 1}, 0}, {[]float64{0, nan}, 0}, {[]float64{-2}, -2},
		{[]float64{inf, 1}, inf}, {[]float64{less, nan, 5}, less}, {[]float64{inf, less}, nan}, {[]float64{less, 1, nan, inf}, nan}, {[]float64{inf, inf}, inf},
		{[]float64{1, ulp / 2, ulp / 2}, 1.0 / 3}, {[]float64{ulp / 2, ulp / 2, 1}, (1 + ulp) / 3}, // each sum is rounded, the first one first
		{[]float64{1e16, 1, -1e16}, 0}, {[]float64{1e16, -1e16, 1}, 1.0 / 3}, {[]float64{0.1, 0.2, 0.3}, 0.6000000000000001 / 3},
		{[]float64{math.MaxFloat64, math.MaxFloat64}, inf}, {[]float64{-math.MaxFloat64, -math.MaxFloat64, math.MaxFloat64}, less},
	} {
		was := slices.Clone(x.l)
		if got := rate.Mean(x.l); !same(got, x.want) {
			t.Errorf("31.1: Mean(%v): %v, not %v", x.l, got, x.want)
		}
		if !slices.EqualFunc(x.l, was, same) {
			t.Errorf("it is changed: %v", was)
		}
	}
}

func TestLeast(t *testing.T) {
	for _, x := range []struct{ a, b, want float64 }{
		{1, 2, 1}, {2, 1, 1}, {nan, 1, 1}, {1, nan, 1}, {nan, nan, nan}, {0, neg, neg}, {neg, 0, neg}, {neg, neg, neg}, {0, 0, 0},
		{inf, less, less}, {less, inf, less}, {inf, nan, inf}, {nan, less, less}, {nan, neg, neg}, {-1, neg, -1}, {inf, math.MaxFloat64, math.MaxFloat64},
	} {
		if got := rate.Least(x.a, x.b); !same(got, x.want) {
			t.Errorf("31.1: Least(%v, %v): %v, not %v", x.a, x.b, got, x.want)
		}
	}
	for _, a := range edges() {
		for _, b := range edges() {
			want := a
			if a != a || b == b && rank(b).Cmp(rank(a)) < 0 {
				want = b
			}
			if got := rate.Least(a, b); !same(got, want) {
				t.Errorf("31.1: Least(%v, %v): %v, not %v", a, b, got, want)
			}
		}
	}
}

func TestMost(t *testing.T) {
	l := []float64{neg, 1, nan, 0, less, 1, inf, neg, nan, -1, 0}
	all := []float64{inf, 1, 1, 0, 0, neg, neg, -1, less, nan, nan}
	for _, n := range []int{math.MinInt, -1, 0, 1, 2, 3, 4, 5, 6, 7, 8, 9, 10, 11, 12, math.MaxInt} {
		was := slices.Clone(l)
		got := rate.Most(l, n)
		if want := all[:min(max(n, 0), len(all))]; !slices.EqualFunc(got, want, same) {
			t.Errorf("31.1: Most of %d: %v, not %v", n, got, want)
		}
		clear(got)
		if !slices.EqualFunc(l, was, same) {
			t.Errorf("it is changed: %v", l)
		}
	}
	if len(rate.Most(nil, 5)) != 0 {
		t.Error("31.1: Most of none")
	}
}

func TestMostIsAnOrder(t *testing.T) {
	r := rand.New(rand.NewSource(1))
	some := edges()
	for range 500 {
		var l []float64
		for range r.Intn(40) {
			x := some[r.Intn(len(some))]
			if r.Intn(3) == 0 {
				x = math.Float64frombits(r.Uint64())
			}
			l = append(l, x)
		}
		want := slices.Clone(l)
		slices.SortStableFunc(want, func(a, b float64) int { return rank(b).Cmp(rank(a)) })
		n := r.Intn(45)
		if got := rate.Most(l, n); !slices.EqualFunc(got, want[:min(n, len(l))], same) {
			t.Fatalf("31.3: Most(%v, %d): %v, not %v", l, n, got, want)
		}
	}
}

func TestOf(t *testing.T) {
	for _, x := range []struct {
		worked, all, before, after int
		pauses                     []float64
		want                       api.Rates
	}{
		{1, 4, 200, 300, []float64{2, 6, nan, 1}, api.Rates{Util: 0.25, Grow: 1.5, Mean: 3, Pause: 6}},
		{0, 0, 0, 0, nil, api.Rates{Util: nan, Grow: nan, Mean: nan, Pause: 0}},
		{-1, 0, 0, 9, []float64{nan}, api.Rates{Util: less, Grow: inf, Mean: nan, Pause: nan}},
		{3, 3, 5, 0, []float64{neg, -1}, api.Rates{Util: 1, Grow: 0, Mean: -0.5, Pause: neg}},
		{3, 3, 5, 0, []float64{less, inf}, api.Rates{Util: 1, Grow: 0, Mean: nan, Pause: inf}},
	} {
		got := rate.Of(x.worked, x.all, x.before, x.after, x.pauses)
		if !same(got.Util, x.want.Util) || !same(got.Grow, x.want.Grow) || !same(got.Mean, x.want.Mean) || !same(got.Pause, x.want.Pause) {
			t.Errorf("31.2: Of(%d, %d, %d, %d, %v): %v, not %v", x.worked, x.all, x.before, x.after, x.pauses, got, x.want)
		}
	}
}

func TestText(t *testing.T) {
	const great = float64(1<<50) / 100
	for _, x := range []struct {
		x    float64
		want string
	}{
		{nan, "NaN"}, {math.Copysign(nan, -1), "NaN"}, {inf, "+Inf"}, {less, "-Inf"}, {0, "0%"}, {neg, "-0%"},
		{1, "100%"}, {-1, "-100%"}, {0.5, "50%"}, {0.001, "0%"}, {-0.001, "-0%"}, {math.SmallestNonzeroFloat64, "0%"}, {-math.SmallestNonzeroFloat64, "-0%"},
		{0.125, "13%"}, {-0.125, "-13%"}, {0.375, "38%"}, {0.625, "63%"}, {0.005, "1%"}, {-0.005, "-1%"}, {2.125, "213%"}, // halves
		{0.0049999999999999996, "0%"}, {math.Nextafter(0.125, 0), "12%"}, {math.Nextafter(0.125, 1), "13%"},
		{0.145, "14%"},               // the product is 14.499999999999998
		{0.285, "28%"},               // 28.499999999999996
		{1.115, "112%"},              // 111.50000000000001
		{0.255, "26%"},               // 25.5, though 0.255 is less than that
		{0.015, "2%"}, {0.035, "4%"}, // 1.5 and 3.5000000000000004
		{11258999068426.23, "1125899906842623%"},
		{-11258999068426.23, "-1125899906842623%"},
		{11258999068426.24, "+Big"}, {-11258999068426.24, "-Big"},
		{1e300, "+Big"}, {-1e300, "-Big"}, {math.MaxFloat64, "+Big"}, {-math.MaxFloat64, "-Big"},
	} {
		if got := rate.Text(x.x); got != x.want {
			t.Errorf("31.2: Text(%v): %s, not %s", x.x, got, x.want)
		}
	}
	x := great
	for 100*x >= 1<<50 {
		x = math.Nextafter(x, 0)
	}
	if got := rate.Text(x); got == "+Big" || got == "-Big" {
		t.Errorf("31.2: Text(%v), just below: %s", x, got)
	}
	if got := rate.Text(math.Nextafter(x, inf)); got != "+Big" {
		t.Errorf("31.2: Text(%v), just at: %s", math.Nextafter(x, inf), got)
	}
}

func TestTextAgainstWholeNumbers(t *testing.T) {
	r := rand.New(rand.NewSource(2))
	for range 20000 {
		x := r.NormFloat64() * math.Pow(2, float64(r.Intn(60)-10))
		if r.Intn(3) == 0 {
			x = math.Round(x*8) / 8
		}
		product := math.Abs(x) * 100
		want := "+Big"
		if math.Signbit(x) {
			want = "-Big"
		}
		if product < 1<<50 {
			twice := new(big.Float).SetFloat64(product) // twice the product and one, halved and cut down
			twice.SetPrec(200).Mul(twice, big.NewFloat(2)).Add(twice, big.NewFloat(1)).Quo(twice, big.NewFloat(2))
			n, _ := twice.Int(nil)
			want = n.String() + "%"
			if math.Signbit(x) {
				want = "-" + want
			}
		}
		if got := rate.Text(x); got != want {
			t.Fatalf("31.2: Text(%v): %s, not %s", x, got, want)
		}
	}
}
