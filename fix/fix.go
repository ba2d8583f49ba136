// Package fix is fixed-point numbers, which never wrap: see DOC.md, chapter 1.
package fix

import (
	"math"
	"math/bits"

	"treadmill/api"
)

const (
	One = 1 << 20
	Max = 1<<63 - 1
	Min = -1 << 63
)

// bound is the least whole part that is beyond int64.
const bound = 1 << 43

// Add is a and b, or the end of int64 that is nearer.
func Add(a, b int64) int64 {
	if b > 0 && a > Max-b {
		return Max
	}
	if b < 0 && a < Min-b {
		return Min
	}
	return a + b
}

// Sub is a less b, or the end of int64 that is nearer.
func Sub(a, b int64) int64 {
	if b < 0 && a > Max+b {
		return Max
	}
	if b > 0 && a < Min+b {
		return Min
	}
	return a - b
}

// Mul is a times b, rounded down.
func Mul(a, b int64) int64 {
	hi, lo := bits.Mul64(size(a), size(b))
	return quotient(hi, lo, One, (a < 0) != (b < 0))
}

// Div is a by b, rounded down; by 0 it is the end of int64 on a's side, or 0.
func Div(a, b int64) int64 {
	if b == 0 {
		return end(a)
	}
	hi, lo := bits.Mul64(size(a), One)
	return quotient(hi, lo, size(b), (a < 0) != (b < 0))
}

// Whole is the whole number n.
func Whole(n int64) int64 {
	if n > Max/One || n < Min/One {
		return end(n)
	}
	return n * One
}

// Int is a's whole part, rounded down.
func Int(a int64) int64 {
	// Dividing would round towards 0; the shift rounds down on both sides.
	return a >> api.Shift
}

// Float is x, rounded down; 0 of NaN.
func Float(x float64) int64 {
	// Only what lies between the bounds may be converted: of all else Go leaves the answer open.
	switch {
	case x != x:
		return 0
	case x >= bound:
		return Max
	case x <= -bound:
		return Min
	}
	return int64(math.Floor(x * One))
}

// Real is a as a float.
func Real(a int64) float64 {
	return float64(a) / One
}

// end is the end of int64 on a's side of 0, or 0.
func end(a int64) int64 {
	switch {
	case a > 0:
		return Max
	case a < 0:
		return Min
	}
	return 0
}

// size is how far a is from 0; it is unsigned, for that of Min is beyond int64.
func size(a int64) uint64 {
	if a < 0 {
		return -uint64(a)
	}
	return uint64(a)
}

// quotient is the 128 bits of hi and lo by the divisor by (not 0), below 0 if below, rounded down.
func quotient(hi, lo, by uint64, below bool) int64 {
	if below {
		return lower(hi, lo, by)
	}
	if hi >= by { // the quotient has more than 64 bits
		return Max
	}
	q, _ := bits.Div64(hi, lo, by)
	if q > Max {
		return Max
	}
	return int64(q)
}

// lower is quotient's, below 0: what is left over takes it one further down.
func lower(hi, lo, by uint64) int64 {
	if hi >= by {
		return Min
	}
	q, left := bits.Div64(hi, lo, by)
	if q > Max { // Min itself, or beyond it
		return Min
	}
	if left > 0 {
		return -int64(q) - 1
	}
	return -int64(q)
}
