package credit_test

import (
	"math"
	"math/big"
	"testing"

	"treadmill/credit"
)

const (
	one  = 1 << 20
	over = 64
	most = math.MaxInt64
)

// capped is a number without ends, or the end of int64, if it is beyond.
func capped(x *big.Int) int64 {
	if !x.IsInt64() {
		return most
	}
	return x.Int64()
}

// sum is a and b, neither below 0.
func sum(a, b int64) int64 {
	return capped(new(big.Int).Add(big.NewInt(a), big.NewInt(b)))
}

// covered is what may be allocated beside Over for so many words that were scanned, as 22.1 tells it.
func covered(scanned, ratio int64) int64 {
	parts := big.NewInt(one)
	whole := capped(new(big.Int).Mul(big.NewInt(scanned), parts))
	by := capped(new(big.Int).Quo(new(big.Int).Mul(big.NewInt(whole), parts), big.NewInt(ratio)))
	return by / one
}

// plain is sums in lists: each a goroutine, what it allocated, what it scanned.
type plain struct {
	ratio, bank int64
	gs          []int
	sums        [][2]int64
}

func (l *plain) of(g int) *[2]int64 {
	for i, known := range l.gs {
		if known == g {
			return &l.sums[i]
		}
	}
	l.gs = append(l.gs, g)
	l.sums = append(l.sums, [2]int64{})
	return &l.sums[len(l.sums)-1]
}

func (l *plain) alloc(g, words int) bool {
	if words < 0 {
		return false
	}
	s := l.of(g)
	is := sum(s[0], int64(words))
	if l.ratio > 0 && is > over+covered(s[1], l.ratio) {
		return false
	}
	s[0] = is
	return true
}

func (l *plain) scan(g int, words int64) {
	if words > 0 {
		s := l.of(g)
		s[1] = sum(s[1], words)
	}
}

func (l *plain) steal(g int, owed int64) int64 {
	n := owed
	if n > l.bank {
		n = l.bank
	}
	l.bank -= n
	l.scan(g, n)
	return n
}

// pair is a Credit and its lists: each call on both is held against one another, and all goroutines' sums behind it.
type pair struct {
	t *testing.T
	c *credit.Credit
	l *plain
}

func both(t *testing.T, ratio int64) *pair {
	t.Helper()
	p := &pair{t, credit.New(ratio), &plain{ratio: ratio}}
	p.held()
	return p
}

func (p *pair) held() {
	p.t.Helper()
	if got := p.c.Banked(); got != p.l.bank {
		p.t.Fatalf("22.1: Banked: %d, not %d", got, p.l.bank)
	}
	for i, g := range p.l.gs {
		allocated, scanned := p.c.Sums(g)
		if want := p.l.sums[i]; allocated != want[0] || scanned != want[1] {
			p.t.Fatalf("22.1: Sums(%d): %d, %d, not %v", g, allocated, scanned, want)
		}
		p.owed(g)
	}
}

// owed asks of what Owed tells whether it is the least number of words that does.
func (p *pair) owed(g int) int64 {
	p.t.Helper()
	got, s := p.c.Owed(g), *p.l.of(g)
	if p.l.ratio <= 0 || s[0] <= over {
		if got != 0 {
			p.t.Fatalf("22.1: Owed(%d) of %v: %d, not 0", g, s, got)
		}
		return got
	}
	does := func(words int64) bool { return covered(sum(s[1], words), p.l.ratio) >= s[0]-over+1 }
	if got < 0 || got != most && !does(got) || got > 0 && does(got-1) {
		p.t.Fatalf("22.1: Owed(%d) of %v by %d: %d", g, s, p.l.ratio, got)
	}
	return got
}

func (p *pair) alloc(g, words int) bool {
	p.t.Helper()
	is := p.l.alloc(g, words)
	if got := p.c.Alloc(g, words); got != is {
		p.t.Fatalf("22.1: Alloc(%d, %d) of %v by %d: %v", g, words, *p.l.of(g), p.l.ratio, got)
	}
	p.held()
	return is
}

func (p *pair) scan(g, words int) {
	p.t.Helper()
	p.l.scan(g, int64(words))
	p.c.Scan(g, words)
	p.held()
}

func (p *pair) bank(words int) {
	p.t.Helper()
	if words > 0 {
		p.l.bank = sum(p.l.bank, int64(words))
	}
	p.c.Bank(words)
	p.held()
}

func (p *pair) steal(g int) int {
	p.t.Helper()
	want := p.l.steal(g, p.owed(g))
	got := p.c.Steal(g)
	if int64(got) != want {
		p.t.Fatalf("22.1: Steal(%d): %d, not %d", g, got, want)
	}
	p.held()
	return got
}
