package central_test

import (
	"math"
	"math/rand"
	"testing"

	"treadmill/central"
)

// noClass: numbers that are no class.
var noClass = []int{-1, -2, -16, 16, 17, 32, 64, 1 << 32, math.MaxInt, math.MinInt, math.MinInt + 1, math.MaxInt32, math.MinInt32}

// 8.1: the document's example.
func TestExample(t *testing.T) {
	p := both(t)
	p.put(0, 7, false)
	if id, unswept, ok := p.take(0); id != 7 || unswept || !ok {
		t.Errorf("8.1: Take(0): %d, %v, %v", id, unswept, ok)
	}
	if id, unswept, ok := p.take(0); id != 0 || unswept || ok {
		t.Errorf("8.1: Take(0) again: %d, %v, %v", id, unswept, ok)
	}
}

// 8.1: an empty Central has nothing of any class.
func TestEmpty(t *testing.T) {
	p := both(t)
	for range 2 {
		for class := range classes {
			p.take(class)
			p.takeFull(class)
		}
		p.any()
		p.del(0)
		p.begin()
	}
	p.none()
}

// 8.1: of each class the four rows stand for themselves.
func TestClasses(t *testing.T) {
	p := both(t)
	for class := range classes {
		for i := range 3 {
			p.put(class, class*10+i, false)
			p.put(class, 1000+class*10+i, true)
		}
	}
	for class := range classes {
		if id, ok := p.takeFull(class); id != 0 || ok {
			t.Errorf("8.1: class %d: what is full and swept is told: %d", class, id)
		}
		if id, unswept, ok := p.take(class); id != class*10+2 || unswept || !ok {
			t.Errorf("8.1: class %d: Take: %d, %v, %v", class, id, unswept, ok)
		}
	}
	p.begin()
	if n := p.c.Unswept(); n != 5*classes {
		t.Errorf("8.1: %d unswept, not %d", n, 5*classes)
	}
	for class := range classes {
		if id, ok := p.takeFull(class); id != 1000+class*10+2 || !ok {
			t.Errorf("8.1: class %d: TakeFull: %d, %v", class, id, ok)
		}
		if id, unswept, ok := p.take(class); id != class*10+1 || !unswept || !ok {
			t.Errorf("8.1: class %d: Take: %d, %v, %v", class, id, unswept, ok)
		}
	}
	p.empty()
}

// 8.1: Take takes from the swept row ahead of the unswept one, the last one first; never what is full.
func TestTake(t *testing.T) {
	p := both(t)
	for _, id := range []int{1, 2, 3} {
		p.put(5, id, false)
		p.put(5, 10+id, true)
	}
	p.begin()
	for _, id := range []int{6, 4, 5} {
		p.put(5, id, false)
		p.put(5, 10+id, true)
	}
	for _, want := range []struct {
		id      int
		unswept bool
	}{{5, false}, {4, false}, {6, false}, {3, true}, {2, true}, {1, true}} {
		if id, unswept, ok := p.take(5); id != want.id || unswept != want.unswept || !ok {
			t.Errorf("8.1: Take: %d, %v, %v, not %v", id, unswept, ok, want)
		}
	}
	if id, unswept, ok := p.take(5); id != 0 || unswept || ok {
		t.Errorf("8.1: Take of full ones: %d, %v, %v", id, unswept, ok)
	}
	for _, want := range []int{13, 12, 11} {
		if id, ok := p.takeFull(5); id != want || !ok {
			t.Errorf("8.1: TakeFull: %d, %v, not %d", id, ok, want)
		}
	}
	if id, ok := p.takeFull(5); id != 0 || ok {
		t.Errorf("8.1: TakeFull of swept ones: %d, %v", id, ok)
	}
	p.ends()
}

// 8.1: one that is swept is taken ahead again when it comes behind unswept ones that were taken from.
func TestTakeTurns(t *testing.T) {
	p := both(t)
	p.put(2, 1, false)
	p.put(2, 2, false)
	p.begin()
	p.take(2)
	p.put(2, 3, false)
	if id, unswept, ok := p.take(2); id != 3 || unswept || !ok {
		t.Errorf("8.1: Take: %d, %v, %v", id, unswept, ok)
	}
	if id, unswept, ok := p.take(2); id != 1 || !unswept || !ok {
		t.Errorf("8.1: Take: %d, %v, %v", id, unswept, ok)
	}
}

// 8.1: Begin with ids in both: swept ones stand behind the unswept ones, in their order.
func TestBegin(t *testing.T) {
	p := both(t)
	for _, ids := range [][]int{{3, 1, 2}, {6, 4, 5}, {}, {9, 8}} {
		for _, id := range ids {
			p.put(7, id, false)
			p.put(7, 100+id, true)
		}
		p.begin()
	}
	if n := p.c.Unswept(); n != 16 {
		t.Errorf("8.1: %d unswept, not 16", n)
	}
	for _, more := range []int{0, 100} {
		for _, want := range []int{3, 1, 2, 6, 4, 5, 9, 8} {
			if class, id, ok := p.any(); class != 7 || id != want+more || !ok {
				t.Errorf("8.1: Any: %d, %d, %v, not %d", class, id, ok, want+more)
			}
		}
	}
	p.none()
}

// 8.1: Any goes by class, then with room ahead of full, then the row's first one; what is swept is not told.
func TestAny(t *testing.T) {
	p := both(t)
	for _, class := range []int{15, 3, 0, 8} {
		p.put(class, class*4+1, true)
		p.put(class, class*4+2, true)
		p.put(class, class*4+3, false)
		p.put(class, class*4+4, false)
	}
	if _, _, ok := p.any(); ok {
		t.Error("8.1: Any of swept ones")
	}
	p.begin()
	p.put(0, 999, false)
	for _, class := range []int{0, 3, 8, 15} {
		for _, i := range []int{3, 4, 1, 2} {
			if k, id, ok := p.any(); k != class || id != class*4+i || !ok {
				t.Errorf("8.1: Any: %d, %d, %v, not %d, %d", k, id, ok, class, class*4+i)
			}
		}
	}
	if class, id, ok := p.any(); class != 0 || id != 0 || ok {
		t.Errorf("8.1: Any of none: %d, %d, %v", class, id, ok)
	}
	p.ends()
}

// 8.1, 8.2: an id that is put again, from each row into each, stands there alone, and behind the others.
func TestPutAgain(t *testing.T) {
	for from := range 8 {
		for to := range 4 {
			for first := range 3 {
				p := both(t)
				again := 10 + first
				for i := range 3 {
					p.put(from/4*9, 10+i, from%2 > 0)
				}
				if from/2%2 > 0 {
					p.begin()
				}
				p.put(to/2*9, 20, to%2 > 0)
				p.put(to/2*9, again, to%2 > 0)
				if p.c.Unswept() != len(p.l[which{from / 4 * 9, false, from%2 > 0}]) {
					t.Errorf("8.1: from row %d to %d: %d unswept", from, to, p.c.Unswept())
				}
				if first == 1 {
					p.ends()
				} else {
					p.empty()
				}
			}
		}
	}
}

// 8.1: Put again where it stands: it goes behind all others.
func TestPutSame(t *testing.T) {
	p := both(t)
	for _, id := range []int{1, 2, 3, 1, 1, 2} {
		p.put(4, id, false)
	}
	for _, want := range []int{2, 1, 3} {
		if id, _, _ := p.take(4); id != want {
			t.Errorf("8.1: Take: %d, not %d", id, want)
		}
	}
	p.none()
}

// 8.1: Put of no class is nothing, also of an id that stands somewhere; Take and TakeFull find nothing there.
func TestNoClass(t *testing.T) {
	p := both(t)
	p.put(0, 1, false)
	p.put(15, 2, true)
	p.begin()
	p.put(0, 3, false)
	p.put(15, 4, true)
	for _, class := range noClass {
		for id := range 6 {
			p.put(class, id, id%2 > 0)
			if id, unswept, ok := p.take(class); id != 0 || unswept || ok {
				t.Errorf("8.1: Take(%d): %d, %v, %v", class, id, unswept, ok)
			}
			if id, ok := p.takeFull(class); id != 0 || ok {
				t.Errorf("8.1: TakeFull(%d): %d, %v", class, id, ok)
			}
		}
	}
	if n := p.c.Unswept(); n != 2 {
		t.Errorf("8.1: %d unswept, not 2", n)
	}
	p.ends()
}

// 8.1: Del takes out of each row, at its ends and in its midst, and of nowhere.
func TestDel(t *testing.T) {
	for row := range 4 {
		for _, gone := range [][]int{{0}, {1}, {2}, {0, 1}, {1, 2}, {2, 1}, {0, 2}, {0, 1, 2}, {2, 0, 1}} {
			p := both(t)
			for i := range 3 {
				p.put(6, i, row%2 > 0)
			}
			if row > 1 {
				p.begin()
			}
			p.del(3)
			for _, id := range gone {
				if !p.del(id) || p.del(id) {
					t.Errorf("8.1: Del(%d) of row %d", id, row)
				}
			}
			p.put(6, 3, row%2 > 0)
			if len(gone)%2 > 0 {
				p.empty()
			} else {
				p.ends()
			}
		}
	}
}

// 8.1: any number is an id.
func TestIds(t *testing.T) {
	p := both(t)
	for i, id := range []int{0, -1, math.MaxInt, math.MinInt, 1 << 32, 1<<32 + 1, -1 << 32, math.MinInt32} {
		p.put(i%3, id, i%2 > 0)
		p.del(id + 7)
	}
	p.begin()
	p.del(math.MaxInt)
	p.del(math.MinInt)
	p.ends()
}

// 8.1, 8.2: long rows of all calls over some classes, against the rows.
func TestRows(t *testing.T) {
	r := rand.New(rand.NewSource(8))
	for round := range 60 {
		p := both(t)
		ids, some := 1+r.Intn(40), 1+r.Intn(classes)
		for range 1500 {
			p.step(r, ids, some)
		}
		if round%2 > 0 {
			p.empty()
		} else {
			p.ends()
		}
	}
}

// step does some one thing.
func (p *pair) step(r *rand.Rand, ids, some int) {
	p.t.Helper()
	class := r.Intn(some)
	if r.Intn(50) == 0 {
		class = noClass[r.Intn(len(noClass))]
	}
	switch what := r.Intn(100); {
	case what < 55:
		p.put(class, r.Intn(ids), r.Intn(2) > 0)
	case what < 68:
		p.take(class)
	case what < 76:
		p.takeFull(class)
	case what < 82:
		p.begin()
	case what < 90:
		p.any()
	default:
		p.del(r.Intn(ids + 2))
	}
}

// 8.1, 8.2: many ids, put, deleted and put again in the midst of their rows, and begun over and over.
func TestMany(t *testing.T) {
	const n = 1 << 15
	c := central.New()
	for id := range n {
		c.Put(id%classes, id, id%3 == 0)
	}
	for range 1000 {
		c.Begin()
	}
	if got := c.Unswept(); got != n {
		t.Fatalf("8.1: %d unswept, not %d", got, n)
	}
	for id := 0; id < n; id += 2 {
		c.Put((id+1)%classes, n-1-id, false)
	}
	for id := 0; id < n; id += 4 {
		if !c.Del(n-1-id) || c.Del(n-1-id) {
			t.Fatalf("8.1: Del(%d)", n-1-id)
		}
	}
	if got := c.Unswept(); got != n/2 {
		t.Fatalf("8.1: %d unswept, not %d", got, n/2)
	}
	seen := make([]bool, n)
	count := 0
	for range 2 {
		for _, id, ok := c.Any(); ok; _, id, ok = c.Any() {
			if seen[id] {
				t.Fatalf("8.2: %d stood in two rows", id)
			}
			seen[id] = true
			count++
		}
		c.Begin()
	}
	if count != n*3/4 {
		t.Errorf("8.1: %d ids, not %d", count, n*3/4)
	}
}

// 8.1: a nil Central has nothing.
func TestNil(t *testing.T) {
	var none *central.Central
	for _, k := range append([]int{0, 1, 15}, noClass...) {
		none.Put(k, k, k%2 == 0)
		none.Begin()
		if id, unswept, ok := none.Take(k); id != 0 || unswept || ok {
			t.Errorf("8.1: of none: Take(%d): %d, %v, %v", k, id, unswept, ok)
		}
		if id, ok := none.TakeFull(k); id != 0 || ok {
			t.Errorf("8.1: of none: TakeFull(%d): %d, %v", k, id, ok)
		}
		if class, id, ok := none.Any(); class != 0 || id != 0 || ok {
			t.Errorf("8.1: of none: Any: %d, %d, %v", class, id, ok)
		}
		if none.Del(k) || none.Unswept() != 0 {
			t.Errorf("8.1: of none: Del(%d), or %d unswept", k, none.Unswept())
		}
	}
}

// 8.1: no call panics of a Central that New did not make.
func TestNotNew(t *testing.T) {
	for _, k := range append([]int{0, 1, 15}, noClass...) {
		var c central.Central
		c.Put(k, k, k%2 == 0)
		c.Begin()
		c.Put(k, k+1, k%2 > 0)
		c.Take(k)
		c.TakeFull(k)
		c.Any()
		c.Del(k)
		c.Unswept()
	}
}

// 8.1: two Centrals have nothing in common.
func TestApart(t *testing.T) {
	p, q := both(t), both(t)
	p.put(1, 5, false)
	q.put(1, 5, true)
	q.begin()
	p.del(5)
	p.put(1, 6, false)
	q.takeFull(1)
	p.ends()
	q.none()
}
