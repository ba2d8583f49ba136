package credit_test

import (
	"math"
	"math/rand"
	"testing"

	"treadmill/credit"
	"treadmill/fix"
)

// ratios are those at and beside what 22.1 and the pacer's bounds name.
func ratios() []int64 {
	return []int64{1, 2, one/8 - 1, one / 8, one/8 + 1, one / 3, one - 1, one, one + 1, 3 * one / 2, 2 * one, 7 * one, 64*one - 1, 64 * one, 64*one + 1, 1 << 50, most - 1, most}
}

// 22.1: the document's example.
func TestExample(t *testing.T) {
	p := both(t, 2*one)
	if !p.alloc(0, 64) || p.alloc(0, 1) {
		t.Error("22.1: Alloc of Over, and of a word more")
	}
	p.scan(0, 2)
	if !p.alloc(0, 1) {
		t.Error("22.1: Alloc behind Scan: false")
	}
}

// 22.1: Over is 64; Alloc to it, at once and word by word, and one word beyond.
func TestOver(t *testing.T) {
	if credit.Over != over {
		t.Fatalf("22.1: Over is %d", credit.Over)
	}
	for _, ratio := range ratios() {
		p := both(t, ratio)
		if p.alloc(3, 65) || !p.alloc(3, 64) || p.alloc(3, 1) || !p.alloc(3, 0) {
			t.Errorf("22.1: Alloc to Over and beyond by %d", ratio)
		}
		for n := range 65 {
			if p.alloc(4, 1) != (n < 64) {
				t.Errorf("22.1: Alloc of a word beside %d by %d", n, ratio)
			}
		}
		if p.alloc(5, math.MaxInt) {
			t.Errorf("22.1: Alloc of all by %d: true", ratio)
		}
	}
}

// 22.1: Alloc behind Scan, by hand: how many words one more than Over takes, and how many may be allocated.
func TestScan(t *testing.T) {
	for _, x := range []struct {
		ratio         int64
		scanned, more int
	}{
		{one / 8, 1, 8}, {one / 8, 2, 16}, {one / 8, 100, 800},
		{one / 3, 1, 3}, {one / 2, 3, 6},
		{one, 1, 1}, {one, 50, 50}, {one + 1, 50, 49}, {one - 1, 50, 50},
		{3 * one / 2, 1, 0}, {3 * one / 2, 2, 1}, {3 * one / 2, 3, 2}, {3 * one / 2, 4, 2}, {3 * one / 2, 5, 3},
		{2 * one, 1, 0}, {2 * one, 2, 1}, {2 * one, 3, 1}, {2 * one, 4, 2},
		{64 * one, 63, 0}, {64 * one, 64, 1}, {64 * one, 127, 1}, {64 * one, 128, 2}, {64 * one, 6400, 100},
		{most, 1 << 30, 0}, {1, 1, one},
	} {
		p := both(t, x.ratio)
		p.scan(1, x.scanned)
		if p.alloc(1, 65+x.more) || !p.alloc(1, 64+x.more) || p.alloc(1, 1) {
			t.Errorf("22.1: by %d, behind Scan of %d: not %d words", x.ratio, x.scanned, 64+x.more)
		}
		p = both(t, x.ratio)
		if !p.alloc(1, 64) {
			t.Errorf("22.1: by %d: Alloc of Over: false", x.ratio)
		}
		for range x.scanned % 1000 {
			p.scan(1, 1)
		}
		p.scan(1, x.scanned-x.scanned%1000)
		if p.alloc(1, x.more+1) || !p.alloc(1, x.more) {
			t.Errorf("22.1: by %d, ahead of Scan of %d: not %d words more", x.ratio, x.scanned, x.more)
		}
	}
}

// 22.1: of a ratio that is not above 0 Alloc is always true, and nothing is owed.
func TestFree(t *testing.T) {
	for _, ratio := range []int64{0, -1, -one, math.MinInt64} {
		p := both(t, ratio)
		for _, words := range []int{64, 1, 0, 1000, 1 << 40, math.MaxInt, 1, math.MaxInt} {
			if !p.alloc(2, words) {
				t.Errorf("22.1: Alloc of %d by %d: false", words, ratio)
			}
		}
		p.scan(2, 10)
		p.bank(10)
		if n := p.steal(2); n != 0 {
			t.Errorf("22.1: Steal by %d: %d", ratio, n)
		}
		if p.alloc(2, -1) {
			t.Errorf("22.1: Alloc below 0 by %d: true", ratio)
		}
	}
}

// 22.1: words below 0: Alloc is false, Scan and Bank are none.
func TestBelowZero(t *testing.T) {
	for _, ratio := range []int64{0, one / 8, one, 64 * one} {
		for _, words := range []int{-1, -64, math.MinInt, math.MinInt + 1} {
			p := both(t, ratio)
			for range 2 {
				if p.alloc(0, words) {
					t.Errorf("22.1: Alloc of %d: true", words)
				}
				p.scan(0, words)
				p.bank(words)
				p.steal(0)
				p.alloc(0, 64)
				p.scan(0, 5)
				p.bank(5)
			}
			if allocated, scanned := p.c.Sums(0); allocated > 128 || scanned < 5 {
				t.Errorf("22.1: Sums: %d, %d", allocated, scanned)
			}
		}
	}
	p := both(t, one)
	p.scan(0, 0)
	p.bank(0)
	if allocated, scanned := p.c.Sums(0); allocated != 0 || scanned != 0 {
		t.Errorf("22.1: Sums: %d, %d", allocated, scanned)
	}
}

// 22.1: Owed by hand: 0 up to Over, and beyond it what lets one word more be allocated.
func TestOwed(t *testing.T) {
	for _, x := range []struct {
		ratio          int64
		scanned, words int // words: allocated beyond Over
		owed           int64
	}{
		{one, 0, 0, 0}, {one, 1, 1, 1}, {one, 10, 10, 1}, {one, 10, 9, 0}, {one, 10, 1, 0},
		{2 * one, 2, 1, 2}, {2 * one, 3, 1, 1}, {2 * one, 4, 1, 0},
		{64 * one, 64, 1, 64}, {64 * one, 127, 1, 1}, {64 * one, 6400, 100, 64}, {64 * one, 6400, 99, 0},
		{one / 8, 1, 8, 1}, {one / 8, 1, 7, 0}, {3 * one / 2, 2, 1, 1}, {3 * one / 2, 3, 2, 2},
		{one + 1, 2, 1, 1}, {1, 1, one, 1}, {1, 1, one - 1, 0},
	} {
		p := both(t, x.ratio)
		p.scan(6, x.scanned)
		p.alloc(6, 64)
		if got := p.owed(6); got != 0 {
			t.Errorf("22.1: by %d: Owed at Over: %d", x.ratio, got)
		}
		if !p.alloc(6, x.words) {
			t.Errorf("22.1: by %d: Alloc of %d behind Scan of %d: false", x.ratio, x.words, x.scanned)
		}
		if got := p.owed(6); got != x.owed {
			t.Errorf("22.1: by %d, of %d beyond Over and %d scanned: Owed: %d, not %d", x.ratio, x.words, x.scanned, got, x.owed)
		}
		p.scan(6, int(x.owed))
		if got := p.owed(6); got != 0 {
			t.Errorf("22.1: by %d: Owed behind scanning it: %d", x.ratio, got)
		}
	}
}

// 22.1: what Owed tells is the least that does: behind it a word more may be allocated, behind one word of scanning less it may not.
func TestOwedIsLeast(t *testing.T) {
	r := rand.New(rand.NewSource(221))
	for _, ratio := range ratios() {
		for range 60 {
			scanned := r.Intn(1 << r.Intn(40))
			fill := func() (*pair, int64) {
				p := both(t, ratio)
				p.scan(1, scanned)
				p.alloc(1, over+int(covered(int64(scanned), ratio)))
				return p, p.owed(1)
			}
			p, owed := fill()
			if allocated, _ := p.c.Sums(1); allocated <= over || owed == most {
				continue
			}
			if owed < 1 {
				t.Fatalf("22.1: by %d, %d scanned: Owed: %d", ratio, scanned, owed)
			}
			p.scan(1, int(owed)-1)
			if p.alloc(1, 1) || p.owed(1) != 1 {
				t.Errorf("22.1: by %d, %d scanned: a word less than Owed %d does", ratio, scanned, owed)
			}
			p, _ = fill()
			p.scan(1, int(owed))
			if !p.alloc(1, 1) {
				t.Errorf("22.1: by %d, %d scanned: Owed %d does not do", ratio, scanned, owed)
			}
		}
	}
}

// 22.1: Owed is Max where no number of words would do.
func TestOwedOfNone(t *testing.T) {
	for _, ratio := range []int64{1, one / 8, one - 1, one, 2 * one, 64 * one, 1 << 40} {
		p := both(t, ratio)
		p.scan(1, math.MaxInt)
		top := int(covered(most, ratio))
		if p.alloc(1, over+top+1) || !p.alloc(1, over+top-1) {
			t.Fatalf("22.1: by %d: Alloc of nearly all", ratio)
		}
		if got := p.owed(1); got != 0 {
			t.Errorf("22.1: by %d: Owed: %d", ratio, got)
		}
		if !p.alloc(1, 1) || p.alloc(1, 1) {
			t.Fatalf("22.1: by %d: Alloc of all", ratio)
		}
		if got := p.owed(1); got != fix.Max {
			t.Errorf("22.1: by %d: Owed: %d, not Max", ratio, got)
		}
		p.bank(100)
		if n := p.steal(1); n != 100 || p.c.Banked() != 0 {
			t.Errorf("22.1: by %d: Steal: %d", ratio, n)
		}
		if got := p.owed(1); got != most {
			t.Errorf("22.1: by %d: Owed behind Steal: %d", ratio, got)
		}
		p.bank(math.MaxInt)
		if n := p.steal(1); n != math.MaxInt || p.c.Banked() != 0 {
			t.Errorf("22.1: by %d: Steal of all: %d", ratio, n)
		}
	}
}

// owes is a Credit of which goroutine 1 owes 4 words.
func owes(t *testing.T) *pair {
	t.Helper()
	p := both(t, 4*one)
	p.scan(1, 16)
	p.alloc(1, 68)
	p.scan(1, 16)
	p.alloc(1, 4)
	p.l.of(2)
	if got := p.owed(1); got != 4 {
		t.Fatalf("22.1: Owed: %d", got)
	}
	return p
}

// 22.1: Steal of a bank of less, as much and more than is owed; what is stolen is scanned.
func TestSteal(t *testing.T) {
	for _, x := range []struct{ bank, stolen int }{{0, 0}, {1, 1}, {3, 3}, {4, 4}, {5, 4}, {1000, 4}, {math.MaxInt, 4}} {
		p := owes(t)
		p.bank(x.bank)
		if got := p.c.Banked(); got != int64(x.bank) {
			t.Errorf("22.1: Banked: %d", got)
		}
		if n := p.steal(1); n != x.stolen || p.c.Banked() != int64(x.bank-x.stolen) {
			t.Errorf("22.1: Steal of %d: %d, %d are left", x.bank, n, p.c.Banked())
		}
		if _, scanned := p.c.Sums(1); scanned != int64(32+x.stolen) {
			t.Errorf("22.1: behind Steal of %d: %d scanned", x.bank, scanned)
		}
		if may := p.alloc(1, 1); may != (x.stolen == 4) {
			t.Errorf("22.1: Alloc behind Steal of %d: %v", x.bank, may)
		}
	}
}

// 22.1: who owes nothing steals nothing; what one stole another one can't.
func TestStealOfOthers(t *testing.T) {
	p := owes(t)
	p.bank(3)
	p.bank(4)
	p.alloc(2, 64)
	if p.steal(2) != 0 || p.steal(7) != 0 || p.steal(1) != 4 || p.steal(1) != 0 || p.c.Banked() != 3 {
		t.Error("22.1: Steal of several")
	}
	p.scan(2, 8)
	p.alloc(2, 2)
	if p.steal(2) != 3 || p.steal(2) != 0 {
		t.Error("22.1: Steal of what is left")
	}
}

// 22.1: goroutines stand apart, whatever their numbers.
func TestApart(t *testing.T) {
	p := both(t, one)
	gs := []int{0, 1, -1, 1023, 1024, 1 << 32, math.MaxInt, math.MinInt}
	for i, g := range gs {
		if allocated, scanned := p.c.Sums(g); allocated != 0 || scanned != 0 || p.c.Owed(g) != 0 {
			t.Errorf("22.1: Sums(%d) at first: %d, %d", g, allocated, scanned)
		}
		p.scan(g, i)
		if !p.alloc(g, 64+i) || p.alloc(g, 1) {
			t.Errorf("22.1: Alloc of goroutine %d", g)
		}
	}
	for i, g := range gs {
		if allocated, scanned := p.c.Sums(g); allocated != int64(64+i) || scanned != int64(i) {
			t.Errorf("22.1: Sums(%d): %d, %d", g, allocated, scanned)
		}
	}
	q := both(t, one)
	if !q.alloc(0, 64) || p.alloc(0, 1) {
		t.Error("22.1: two Credits beside one another")
	}
}

// 22.1: sums stay at Max.
func TestMax(t *testing.T) {
	p := both(t, 0)
	p.alloc(1, math.MaxInt-1)
	p.scan(1, math.MaxInt-1)
	p.bank(math.MaxInt - 1)
	for range 3 {
		p.alloc(1, 1)
		p.scan(1, 1)
		p.bank(1)
		if allocated, scanned := p.c.Sums(1); allocated != most || scanned != most || p.c.Banked() != most {
			t.Errorf("22.1: Sums: %d, %d; Banked: %d", allocated, scanned, p.c.Banked())
		}
	}
	p.alloc(1, math.MaxInt)
	p.scan(1, math.MaxInt)
	p.bank(math.MaxInt)
	q := both(t, one)
	q.scan(1, math.MaxInt)
	q.scan(1, math.MaxInt)
	for range 4 {
		q.alloc(1, 1<<42)
	}
}

// 22.1: long rows of all calls, against the lists.
func TestRows(t *testing.T) {
	r := rand.New(rand.NewSource(22))
	for round := range 120 {
		ratio := ratios()[round%len(ratios())]
		if round%40 == 39 {
			ratio = -r.Int63n(3)
		}
		p := both(t, ratio)
		for range 150 {
			g, words := r.Intn(4)-1, r.Intn(1<<(1+r.Intn(8)))-2
			switch r.Intn(6) {
			case 0, 1:
				p.alloc(g, words)
			case 2:
				p.scan(g, words)
			case 3:
				p.bank(words)
			case 4:
				p.steal(g)
			default:
				p.scan(g, r.Intn(1+int(min(p.owed(g), 1<<40))))
			}
		}
	}
}

// 22.2, T6: words allocated are at most what was scanned by the ratio, and Over: of parts without ends.
func TestAtMost(t *testing.T) {
	r := rand.New(rand.NewSource(222))
	for _, ratio := range []int64{one / 8, one / 3, one, 3 * one / 2, 2 * one, 64 * one} {
		c := credit.New(ratio)
		full := 0
		for range 5000 {
			if !c.Alloc(1, r.Intn(257)) {
				full++
				c.Bank(r.Intn(300))
				c.Steal(1)
				c.Scan(1, r.Intn(16))
			}
			allocated, scanned := c.Sums(1)
			if (allocated-over)*ratio > scanned*one {
				t.Fatalf("22.2: by %d: %d were allocated, %d scanned", ratio, allocated, scanned)
			}
		}
		if full == 0 {
			t.Errorf("22.2: by %d: never full", ratio)
		}
	}
}

// 22.1: of a nil Credit there is nothing.
func TestNil(t *testing.T) {
	var none *credit.Credit
	for _, g := range []int{0, 1, -1} {
		none.Scan(g, 5)
		none.Bank(5)
		allocated, scanned := none.Sums(g)
		if none.Alloc(g, 0) || none.Alloc(g, 1) || none.Steal(g) != 0 || none.Owed(g) != 0 || none.Banked() != 0 || allocated != 0 || scanned != 0 {
			t.Errorf("22.1: of none: something of %d", g)
		}
	}
}

// 22.1: a Credit that New did not make does not panic.
func TestNotNew(t *testing.T) {
	var c credit.Credit
	c.Sums(1)
	c.Owed(1)
	c.Steal(1)
	c.Bank(3)
	c.Scan(1, 2)
	c.Alloc(1, 100)
	c.Steal(1)
	c.Sums(1)
}
