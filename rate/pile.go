package rate

import "math"

// pile is a heap of floats, the greatest one on top: container/heap calls its methods.
type pile []float64

// Len is how many there are.
func (p pile) Len() int {
	return len(p)
}

// Less is whether the one at i comes ahead of the one at j.
func (p pile) Less(i, j int) bool {
	return below(p[j], p[i])
}

// Swap turns the ones at i and j.
func (p pile) Swap(i, j int) {
	p[i], p[j] = p[j], p[i]
}

// Push lays x behind all others.
func (p *pile) Push(x any) {
	*p = append(*p, x.(float64))
}

// Pop takes the last one out.
func (p *pile) Pop() any {
	last := len(*p) - 1
	x := (*p)[last]
	*p = (*p)[:last]
	return x
}

// below is whether a is less than b, in an order of all floats: NaN is less than all others, -0 less than 0.
func below(a, b float64) bool {
	switch {
	case a != a || b != b:
		return b == b
	case a == b:
		return math.Signbit(a) && !math.Signbit(b)
	}
	return a < b
}
