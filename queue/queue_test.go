package queue_test

import (
	"math"
	"math/rand"
	"slices"
	"testing"

	"treadmill/queue"
)

// pair is a Queue and its row, as 11.1 tells it: each call on both is held against one another, and who stands there behind it.
type pair struct {
	t   *testing.T
	q   *queue.Queue
	row []int
}

func both(t *testing.T) *pair {
	t.Helper()
	p := &pair{t: t, q: queue.New()}
	p.held()
	return p
}

func (p *pair) held() {
	p.t.Helper()
	if got := p.q.All(); !slices.Equal(got, p.row) {
		p.t.Fatalf("11.1: All: %v, not %v", got, p.row)
	}
	if got := p.q.Len(); got != len(p.row) {
		p.t.Fatalf("11.1: Len: %d, not %d", got, len(p.row))
	}
}

func (p *pair) put(l ...int) {
	p.t.Helper()
	p.q.Put(l...)
	p.row = slices.Concat(p.row, l)
	p.held()
}

// count is how many Get tells of so many, bound by bound.
func count(length, ps, most int) int {
	if ps < 1 {
		ps = 1
	}
	n := length/ps + 1
	for _, bound := range []int{most, 128, length} {
		if n > bound {
			n = bound
		}
	}
	if n < 0 {
		return 0
	}
	return n
}

func (p *pair) get(ps, most int) []int {
	p.t.Helper()
	n := count(len(p.row), ps, most)
	got := p.q.Get(ps, most)
	if !slices.Equal(got, p.row[:n]) {
		p.t.Fatalf("11.1: Get(%d, %d) of %d: %v, not %v", ps, most, len(p.row), got, p.row[:n])
	}
	p.row = slices.Clone(p.row[n:])
	p.held()
	return got
}

func (p *pair) del(g int) bool {
	p.t.Helper()
	i := slices.Index(p.row, g)
	got := p.q.Del(g)
	if got != (i >= 0) {
		p.t.Fatalf("11.1: Del(%d): %v", g, got)
	}
	if i >= 0 {
		p.row = slices.Delete(slices.Clone(p.row), i, i+1)
	}
	p.held()
	return got
}

// of is a Queue of n, from g on.
func of(t *testing.T, g, n int) *pair {
	t.Helper()
	p := both(t)
	for i := range n {
		p.row = append(p.row, g+i)
	}
	p.q.Put(p.row...)
	p.held()
	return p
}

// 11.1: the document's example.
func TestExample(t *testing.T) {
	p := both(t)
	p.put(1, 2, 3)
	if got := p.get(2, 9); !slices.Equal(got, []int{1, 2}) {
		t.Errorf("11.1: Get(2, 9): %v", got)
	}
}

// 11.1: Put of none, one and many, behind all others.
func TestPut(t *testing.T) {
	p := both(t)
	p.put()
	p.put([]int{}...)
	p.put(5)
	p.put()
	p.put(5, 4, 9)
	p.put([]int(nil)...)
	p.put(0, -1, math.MaxInt, math.MinInt, 5)
	if want := []int{5, 5, 4, 9, 0, -1, math.MaxInt, math.MinInt, 5}; !slices.Equal(p.q.All(), want) {
		t.Errorf("11.1: All: %v, not %v", p.q.All(), want)
	}
	many := make([]int, 5000)
	for i := range many {
		many[i] = i
	}
	p.put(many...)
	p.put(many[:1]...)
}

// 11.1: Get by hand: Len / ps and 1, at most most, at most 128, at most Len; ps below 1 as 1, most below 0 as 0.
func TestGet(t *testing.T) {
	for _, x := range []struct{ length, ps, most, want int }{
		{0, 1, 9, 0}, {0, 1, 0, 0}, {0, 0, -1, 0},
		{1, 1, 9, 1}, {1, 2, 9, 1}, {1, 64, 9, 1}, {1, 1, 0, 0},
		{10, 1, 99, 10}, {10, 2, 99, 6}, {10, 3, 99, 4}, {10, 4, 99, 3}, {10, 9, 99, 2}, {10, 10, 99, 2}, {10, 11, 99, 1}, {10, 64, 99, 1},
		{10, math.MaxInt, 99, 1}, {10, 0, 99, 10}, {10, -1, 99, 10}, {10, -5, 99, 10}, {10, math.MinInt, 99, 10},
		{10, 2, 6, 6}, {10, 2, 5, 5}, {10, 2, 1, 1}, {10, 2, 0, 0}, {10, 2, -1, 0}, {10, 2, math.MinInt, 0}, {10, 2, math.MaxInt, 6},
		{127, 1, 999, 127}, {128, 1, 999, 128}, {129, 1, 999, 128}, {1000, 1, 999, 128}, {1000, 1, math.MaxInt, 128},
		{254, 2, 999, 128}, {253, 2, 999, 127}, {252, 2, 999, 127}, {256, 2, 999, 128}, {1000, 2, 129, 128}, {1000, 2, 128, 128}, {1000, 2, 127, 127},
		{1000, 64, 64, 16}, {1000, 64, 15, 15}, {5000, 10, 64, 64},
	} {
		p := of(t, 100, x.length)
		got := p.get(x.ps, x.most)
		if len(got) != x.want {
			t.Errorf("11.1: Get(%d, %d) of %d: %d are told, not %d", x.ps, x.most, x.length, len(got), x.want)
		}
		p.put(7)
	}
}

// 11.1: all lengths, Ps and bounds beside one another.
func TestBounds(t *testing.T) {
	for length := range 300 {
		for _, ps := range []int{-1, 0, 1, 2, 3, 7, 63, 64, 128, length - 1, length, length + 1} {
			for _, most := range []int{-1, 0, 1, 2, 63, 64, 127, 128, 129, length - 1, length, length + 1} {
				q := queue.New()
				q.Put(make([]int, length)...)
				want := count(length, ps, most)
				if got := q.Get(ps, most); len(got) != want || q.Len() != length-want {
					t.Fatalf("11.1: Get(%d, %d) of %d: %d are told, not %d; %d are left", ps, most, length, len(got), want, q.Len())
				}
			}
		}
	}
}

// 11.1: Del takes out the first such, and leaves the others in their order.
func TestDel(t *testing.T) {
	p := both(t)
	if p.del(0) {
		t.Error("11.1: Del of an empty one")
	}
	p.put(1, 2, 1, 3, 1, 0)
	for _, want := range [][]int{{2, 1, 3, 1, 0}, {2, 3, 1, 0}, {2, 3, 0}} {
		if !p.del(1) || !slices.Equal(p.q.All(), want) {
			t.Errorf("11.1: behind Del(1): %v, not %v", p.q.All(), want)
		}
	}
	if p.del(1) || p.del(-1) || !p.del(0) || p.del(0) || !p.del(2) || !p.del(3) || p.del(3) {
		t.Error("11.1: Del of one that is not there, or of one that is")
	}
	p.put(4)
	for n := 1; n < 20; n++ {
		for place := range n {
			p := of(t, 50, n)
			p.del(50 + place)
			p.del(50 + place)
			p.put(1)
			p.get(1, 3)
		}
	}
}

// 11.1: long rows of all calls, against the row.
func TestRows(t *testing.T) {
	r := rand.New(rand.NewSource(11))
	for round := range 40 {
		p := both(t)
		for range 800 {
			switch what := r.Intn(100); {
			case what < 45:
				l := make([]int, r.Intn(3+round))
				for i := range l {
					l[i] = r.Intn(60) - 5
				}
				p.put(l...)
			case what < 85:
				p.get(r.Intn(10)-1, r.Intn(200)-2)
			default:
				p.del(r.Intn(62) - 6)
			}
		}
	}
}

// 11.2: first come, first told, through long rows, by Ps of any number.
func TestFirstCome(t *testing.T) {
	r := rand.New(rand.NewSource(112))
	q := queue.New()
	put, told := 0, 0
	for put < 200000 {
		l := make([]int, r.Intn(300))
		for i := range l {
			l[i] = put
			put++
		}
		q.Put(l...)
		for range r.Intn(8) {
			for _, g := range q.Get(1+r.Intn(8), 150) {
				if g != told {
					t.Fatalf("11.2: %d is told, not %d", g, told)
				}
				told++
			}
		}
		if q.Len() != put-told {
			t.Fatalf("11.2: %d stand there, not %d", q.Len(), put-told)
		}
	}
	for q.Len() > 0 {
		for _, g := range q.Get(1, 128) {
			if g != told {
				t.Fatalf("11.2: %d is told, not %d", g, told)
			}
			told++
		}
	}
	if told != put {
		t.Errorf("11.2: %d were told of %d", told, put)
	}
}

// 11.1: what is handed in is not kept, and what is told is the caller's own.
func TestListsAreNew(t *testing.T) {
	p := both(t)
	l := make([]int, 4, 10)
	copy(l, []int{1, 2, 3, 4})
	p.put(l...)
	clear(l)
	p.held()
	p.put(5, 6)
	if l = l[:10]; !slices.Equal(l, make([]int, 10)) {
		t.Errorf("11.1: what was handed in is %v", l)
	}
	clear(p.q.All())
	p.held()
	got := p.get(1, 2)
	got = append(got, 8, 8, 8, 8)
	clear(got)
	p.held()
	p.put(7)
	all := p.q.All()
	all = append(all, 9)
	p.put(8)
	if all[len(all)-1] != 9 {
		t.Error("11.1: what was told has changed")
	}
	p.del(3)
	p.del(8)
}

// 11.1: a nil Queue has nobody.
func TestNil(t *testing.T) {
	var none *queue.Queue
	none.Put()
	none.Put(1, 2, 3)
	if len(none.Get(1, 9)) != 0 || none.Len() != 0 || len(none.All()) != 0 || none.Del(1) {
		t.Error("11.1: of none: somebody")
	}
}
