package fix

import (
	"math"
	"math/big"
	"math/rand"
	"testing"
)

// numbers: both ends of int64, both sides of 0, of One, of each power of two, and some between.
func numbers() []int64 {
	l := []int64{0, Max, Min, Max - 1, Min + 1, 3 * One / 2, -3 * One / 2, 7 * One, -7 * One, Max - One, Min + One, 1000003, -1000003}
	for i := range 63 {
		p := int64(1) << i
		l = append(l, p, p-1, p+1, -p, -p-1, -p+1)
	}
	r := rand.New(rand.NewSource(1))
	for range 60 {
		l = append(l, int64(r.Uint64())>>r.Intn(64))
	}
	return l
}

// reals: what floats' edges are: NaN, infinities, zeros, least ones, both sides of 2^43 and of whole numbers.
func reals() []float64 {
	l := []float64{math.NaN(), math.Inf(1), math.Inf(-1), 0, math.Copysign(0, -1), math.MaxFloat64, -math.MaxFloat64, math.SmallestNonzeroFloat64, -math.SmallestNonzeroFloat64, 0.1, -0.1, 0.5, -0.5, math.Pi, -math.Pi}
	for _, x := range []float64{1 << 43, 1 << 42, 1 << 32, 1, 1.0 / One, 1.5 / One, 1e-300} {
		for _, y := range []float64{x, math.Nextafter(x, math.Inf(1)), math.Nextafter(x, 0)} {
			l = append(l, y, -y)
		}
	}
	r := rand.New(rand.NewSource(2))
	for range 500 {
		l = append(l, math.Float64frombits(r.Uint64()), r.NormFloat64()*1000, math.Ldexp(r.Float64()-0.5, r.Intn(80)-30))
	}
	return l
}

// cut is x, or the end of int64 that is nearer.
func cut(x *big.Int) int64 {
	if x.IsInt64() {
		return x.Int64()
	}
	if x.Sign() > 0 {
		return Max
	}
	return Min
}

// floor is the greatest whole number that is not above a by b (b not 0), cut.
func floor(a, b *big.Int) int64 {
	if b.Sign() < 0 { // of a divisor above 0 big's Div rounds down
		a, b = new(big.Int).Neg(a), new(big.Int).Neg(b)
	}
	return cut(new(big.Int).Div(a, b))
}

// wantDiv is what 1.1 says of Div.
func wantDiv(a, b int64) int64 {
	switch {
	case b != 0:
		return floor(new(big.Int).Mul(big.NewInt(a), big.NewInt(One)), big.NewInt(b))
	case a > 0:
		return Max
	case a < 0:
		return Min
	}
	return 0
}

// wantFloat is what 1.2 says of Float.
func wantFloat(x float64) int64 {
	switch {
	case math.IsNaN(x):
		return 0
	case math.IsInf(x, 1):
		return Max
	case math.IsInf(x, -1):
		return Min
	}
	r := new(big.Rat).SetFloat64(x)
	r.Mul(r, big.NewRat(One, 1))
	return floor(r.Num(), r.Denom())
}

// 1.1: the numbers that the package is made of.
func TestConstants(t *testing.T) {
	if One != 1048576 || Max != math.MaxInt64 || Min != math.MinInt64 {
		t.Fatal("1.1: a constant is another one")
	}
}

// 1.1: what can be told by hand.
func TestTold(t *testing.T) {
	for i, x := range []struct{ got, want int64 }{
		{Add(2, 3), 5}, {Add(-2, -3), -5}, {Add(Max, Min), -1}, {Add(Max, 0), Max}, {Add(Min, 0), Min},
		{Add(Max, 1), Max}, {Add(1, Max), Max}, {Add(Max, Max), Max}, {Add(Min, -1), Min}, {Add(-1, Min), Min}, {Add(Min, Min), Min},
		{Sub(2, 3), -1}, {Sub(Max, Max), 0}, {Sub(Min, Min), 0}, {Sub(Max, -1), Max}, {Sub(Min, 1), Min},
		{Sub(0, Min), Max}, {Sub(-1, Min), Max}, {Sub(-2, Min), Max - 1}, {Sub(0, Max), Min + 1}, {Sub(-1, Max), Min}, {Sub(-2, Max), Min}, {Sub(Max, Min), Max}, {Sub(Min, Max), Min},
		{Mul(3*One/2, One/2), 3 * One / 4}, {Mul(One, Max), Max}, {Mul(One, Min), Min}, {Mul(Min, -One), Max}, {Mul(Min, Min), Max}, {Mul(Max, Min), Min},
		{Mul(1, 1), 0}, {Mul(-1, 1), -1}, {Mul(1, -1), -1}, {Mul(-1, -1), 0}, {Mul(0, Min), 0}, {Mul(Max, 0), 0}, {Mul(-3, One/2), -2}, {Mul(3, One/2), 1},
		{Div(One, 3*One), One / 3}, {Div(-One, 3*One), -One/3 - 1}, {Div(One, -3*One), -One/3 - 1}, {Div(-One, -3*One), One / 3},
		{Div(Min, -One), Max}, {Div(Min, One), Min}, {Div(Max, One), Max}, {Div(Max, -1), Min}, {Div(Min, -1), Max}, {Div(Min, Min), One}, {Div(0, Min), 0},
		{Whole(3), 3 * One}, {Whole(-3), -3 * One}, {Whole(0), 0}, {Whole(1<<43 - 1), Max - One + 1}, {Whole(1 << 43), Max}, {Whole(-1 << 43), Min}, {Whole(-1<<43 - 1), Min}, {Whole(-1<<43 + 1), Min + One}, {Whole(Max), Max}, {Whole(Min), Min},
		{Int(One - 1), 0}, {Int(One), 1}, {Int(0), 0}, {Int(-1), -1}, {Int(-One), -1}, {Int(-One - 1), -2}, {Int(Max), 1<<43 - 1}, {Int(Min), -1 << 43},
	} {
		if x.got != x.want {
			t.Errorf("1.1, row %d: %d, not %d", i, x.got, x.want)
		}
	}
}

// 1.1: by 0 nothing can be divided: it is told by a's side alone.
func TestByNothing(t *testing.T) {
	for _, a := range numbers() {
		want := int64(0)
		if a > 0 {
			want = Max
		}
		if a < 0 {
			want = Min
		}
		if got := Div(a, 0); got != want {
			t.Errorf("1.1: Div(%d, 0): %d, not %d", a, got, want)
		}
	}
}

// 1.1: all of it, held against numbers without ends.
func TestAgainstBig(t *testing.T) {
	l := numbers()
	for _, a := range l {
		x := big.NewInt(a)
		if got, want := Whole(a), cut(new(big.Int).Mul(x, big.NewInt(One))); got != want {
			t.Fatalf("1.1: Whole(%d): %d, not %d", a, got, want)
		}
		if got, want := Int(a), floor(x, big.NewInt(One)); got != want {
			t.Fatalf("1.1: Int(%d): %d, not %d", a, got, want)
		}
		for _, b := range l {
			y := big.NewInt(b)
			if got, want := Add(a, b), cut(new(big.Int).Add(x, y)); got != want {
				t.Fatalf("1.1: Add(%d, %d): %d, not %d", a, b, got, want)
			}
			if got, want := Sub(a, b), cut(new(big.Int).Sub(x, y)); got != want {
				t.Fatalf("1.1: Sub(%d, %d): %d, not %d", a, b, got, want)
			}
			if got, want := Mul(a, b), floor(new(big.Int).Mul(x, y), big.NewInt(One)); got != want {
				t.Fatalf("1.1: Mul(%d, %d): %d, not %d", a, b, got, want)
			}
			if got, want := Div(a, b), wantDiv(a, b); got != want {
				t.Fatalf("1.1: Div(%d, %d): %d, not %d", a, b, got, want)
			}
		}
	}
}

// 1.2: Float's edges by hand.
func TestFloatTold(t *testing.T) {
	const far = 1 << 43
	for _, x := range []struct {
		x    float64
		want int64
	}{
		{math.NaN(), 0}, {math.Copysign(math.NaN(), -1), 0}, {math.Inf(1), Max}, {math.Inf(-1), Min}, {math.MaxFloat64, Max}, {-math.MaxFloat64, Min},
		{0, 0}, {math.Copysign(0, -1), 0}, {math.SmallestNonzeroFloat64, 0}, {-math.SmallestNonzeroFloat64, -1},
		{1, One}, {-1, -One}, {-0.5, -524288}, {1.5 / One, 1}, {-1.5 / One, -2}, {0.999 / One, 0}, {-0.001 / One, -1},
		{far, Max}, {-far, Min}, {math.Nextafter(far, 2*far), Max}, {math.Nextafter(-far, -2*far), Min}, {math.Nextafter(far, 0), Max - 1023}, {math.Nextafter(-far, 0), Min + 1024}, {far - 1, Max - One + 1},
	} {
		if got := Float(x.x); got != x.want {
			t.Errorf("1.2: Float(%v): %d, not %d", x.x, got, x.want)
		}
	}
}

// 1.2: Float held against fractions without ends.
func TestFloatAgainstBig(t *testing.T) {
	for _, x := range reals() {
		if got, want := Float(x), wantFloat(x); got != want {
			t.Errorf("1.2: Float(%v): %d, not %d", x, got, want)
		}
	}
}

// 1.2: Real is one rounding to a float, and one division that is exact.
func TestReal(t *testing.T) {
	for _, x := range []struct {
		a    int64
		want float64
	}{{0, 0}, {One, 1}, {-3 * One, -3}, {One / 2, 0.5}, {1, 1.0 / 1048576}, {-1, -1.0 / 1048576}, {Max, 1 << 43}, {Min, -1 << 43}} {
		if got := Real(x.a); got != x.want {
			t.Errorf("1.2: Real(%d): %v, not %v", x.a, got, x.want)
		}
	}
	if math.Signbit(Real(0)) {
		t.Error("1.2: Real(0) is -0")
	}
	for _, a := range numbers() {
		if got, want := Real(a), math.Ldexp(float64(a), -20); got != want {
			t.Errorf("1.2: Real(%d): %v, not %v", a, got, want)
		}
		if small := a >> 11; Float(Real(small)) != small { // 53 bits stand in a float whole
			t.Errorf("1.2: Float of Real(%d): %d", small, Float(Real(small)))
		}
	}
}

// 1.3: what is greater never comes out lesser, up to both ends; a number that had wrapped would.
func TestNothingWraps(t *testing.T) {
	l := numbers()
	for _, a := range l {
		for _, b := range l {
			if b > a && (Whole(b) < Whole(a) || Int(b) < Int(a) || Real(b) < Real(a)) {
				t.Fatalf("1.3: %d and %d turn round", a, b)
			}
			if b >= 0 && (Add(a, b) < a || Sub(a, b) > a) || b < 0 && (Add(a, b) > a || Sub(a, b) < a) {
				t.Fatalf("1.3: a sum or difference of %d and %d wraps", a, b)
			}
			same := (a < 0) == (b < 0)
			if same && (Mul(a, b) < 0 || Div(a, b) < 0) && b != 0 || !same && (Mul(a, b) > 0 || Div(a, b) > 0) && b != 0 {
				t.Fatalf("1.3: a product or quotient of %d and %d has the wrong side", a, b)
			}
		}
	}
	for _, x := range reals() {
		for _, y := range reals() {
			if x < y && Float(x) > Float(y) {
				t.Fatalf("1.3: Float of %v is above that of %v", x, y)
			}
		}
	}
}
