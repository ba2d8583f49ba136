package buffer_test

import (
	"math"
	"math/rand"
	"slices"
	"testing"

	"treadmill/api"
	"treadmill/buffer"
)

// room: how many a Buffer holds, as api and 17.1 tell it.
const room = 32

// pair is a Buffer and its list: each call on both is held against one another, and all that stands there behind it.
type pair struct {
	t *testing.T
	b *buffer.Buffer
	l []int
}

func both(t *testing.T) *pair {
	t.Helper()
	p := &pair{t: t, b: buffer.New()}
	p.held()
	return p
}

// of is a Buffer of n, from v on.
func of(t *testing.T, v, n int) *pair {
	t.Helper()
	p := both(t)
	for i := range n {
		p.put(v + i)
	}
	return p
}

func (p *pair) held() {
	p.t.Helper()
	if got := p.b.All(); !slices.Equal(got, p.l) {
		p.t.Fatalf("17.1: All: %v, not %v", got, p.l)
	}
	if got := p.b.Len(); got != len(p.l) {
		p.t.Fatalf("17.1: Len: %d, not %d", got, len(p.l))
	}
}

func (p *pair) put(v int) bool {
	p.t.Helper()
	is := len(p.l) < room
	if is {
		p.l = append(slices.Clone(p.l), v)
	}
	if got := p.b.Put(v); got != is {
		p.t.Fatalf("17.1: Put(%d) into one of %d: %v", v, len(p.l), got)
	}
	p.held()
	return is
}

func (p *pair) get() (int, bool) {
	p.t.Helper()
	want, some := 0, len(p.l) > 0
	if some {
		want, p.l = p.l[len(p.l)-1], slices.Clone(p.l[:len(p.l)-1])
	}
	v, ok := p.b.Get()
	if v != want || ok != some {
		p.t.Fatalf("17.1, 17.2: Get: %d, %v, not %d, %v", v, ok, want, some)
	}
	p.held()
	return v, ok
}

func (p *pair) half(o *pair) int {
	p.t.Helper()
	n := len(p.l) / 2
	if n+len(o.l) > room {
		n = 0
	}
	first := len(p.l) - n
	p.l, o.l = slices.Clone(p.l[:first]), slices.Concat(o.l, p.l[first:])
	if got := p.b.Half(o.b); got != n {
		p.t.Fatalf("17.1: Half: %d, not %d", got, n)
	}
	p.held()
	o.held()
	return n
}

// 17.1: the document's example.
func TestExample(t *testing.T) {
	p := both(t)
	p.put(1)
	p.put(2)
	if v, some := p.get(); v != 2 || !some {
		t.Errorf("17.1: Get: %d, %v", v, some)
	}
}

// 17.1: Put up to BufCap and one more: that one is not there.
func TestPut(t *testing.T) {
	if api.BufCap != room {
		t.Fatalf("BufCap is %d", api.BufCap)
	}
	p := both(t)
	for v := range room {
		if !p.put(v) {
			t.Errorf("17.1: Put(%d): false", v)
		}
	}
	for range 3 {
		if p.put(99) {
			t.Error("17.1: Put into a full one: true")
		}
	}
	p.get()
	if !p.put(77) || p.put(78) {
		t.Error("17.1: Put into one that has room for one")
	}
}

// 17.1: any number may be put, 0 too, and the same one many times.
func TestNumbers(t *testing.T) {
	p := both(t)
	for _, v := range []int{0, 0, -1, 64, 64, 1 << 40, math.MaxInt, math.MinInt, 0} {
		p.put(v)
	}
	for range 10 {
		p.get()
	}
}

// 17.1, 17.2: Get of an empty one is false; else the last one is taken out.
func TestGet(t *testing.T) {
	for n := range room + 1 {
		p := of(t, 100, n)
		for i := range n {
			if v, some := p.get(); v != 100+n-1-i || !some {
				t.Errorf("17.2: Get: %d, %v", v, some)
			}
		}
		for range 2 {
			if v, some := p.get(); v != 0 || some {
				t.Errorf("17.1: Get of an empty one: %d, %v", v, some)
			}
		}
		p.put(5)
		p.get()
	}
}

// 17.1: Half by hand: the last ones go, in their order, behind those of o.
func TestHalf(t *testing.T) {
	p, o := of(t, 1, 7), of(t, 50, 2)
	if n := p.half(o); n != 3 || !slices.Equal(o.b.All(), []int{50, 51, 5, 6, 7}) || !slices.Equal(p.b.All(), []int{1, 2, 3, 4}) {
		t.Errorf("17.1: Half: %d, %v, %v", n, p.b.All(), o.b.All())
	}
	if n := p.half(o); n != 2 || !slices.Equal(o.b.All(), []int{50, 51, 5, 6, 7, 3, 4}) || !slices.Equal(p.b.All(), []int{1, 2}) {
		t.Errorf("17.1: Half: %d, %v, %v", n, p.b.All(), o.b.All())
	}
}

// 17.1: Half of every Len into every Len: of 0 and 1 nothing, with just room all of it, with one too few nothing.
func TestHalfOfAll(t *testing.T) {
	for n := range room + 1 {
		for m := range room + 1 {
			p, o := of(t, 100, n), of(t, 200, m)
			moved := p.half(o)
			if want := n / 2; m+want <= room && moved != want || m+want > room && moved != 0 {
				t.Errorf("17.1: Half of %d into %d: %d", n, m, moved)
			}
			p.put(1)
			o.put(2)
			o.half(p)
			p.get()
			o.get()
		}
	}
}

// 17.1: long rows of Put, Get and Half of two, against two lists.
func TestRows(t *testing.T) {
	r := rand.New(rand.NewSource(17))
	for round := range 60 {
		two := []*pair{both(t), both(t)}
		for range 500 {
			k := r.Intn(2)
			switch what := r.Intn(100); {
			case what < 30+round:
				two[k].put(r.Intn(1000) - 100)
			case what < 92:
				two[k].get()
			default:
				two[k].half(two[1-k])
			}
		}
	}
}

// 17.2: last in, first out, of what stands there: a number goes as all that came behind it have gone.
func TestLastFirst(t *testing.T) {
	r := rand.New(rand.NewSource(172))
	b := buffer.New()
	var in []int
	for v := range 20000 {
		if r.Intn(2) == 0 {
			if b.Put(v) {
				in = append(in, v)
			}
			continue
		}
		if got, some := b.Get(); some {
			if got != in[len(in)-1] {
				t.Fatalf("17.2: %d goes ahead of %d", got, in[len(in)-1])
			}
			in = in[:len(in)-1]
		}
	}
	if b.Len() != len(in) {
		t.Errorf("17.2: %d are left, not %d", b.Len(), len(in))
	}
}

// 17.1: what is told is the caller's own.
func TestListsAreNew(t *testing.T) {
	p := of(t, 1, 9)
	clear(p.b.All())
	p.held()
	all := append(p.b.All(), 5, 5)
	p.put(10)
	p.held()
	if all[9] != 5 {
		t.Error("17.1: what was told has changed")
	}
	o := both(t)
	p.half(o)
	p.put(77)
	p.put(78)
	o.get()
	o.put(79)
	p.held()
	o.held()
}

// 17.1: of a nil Buffer there is nothing, on either side of Half.
func TestNil(t *testing.T) {
	var none *buffer.Buffer
	if v, some := none.Get(); v != 0 || some || none.Put(1) || none.Len() != 0 || len(none.All()) != 0 {
		t.Error("17.1: of none: something")
	}
	p := of(t, 1, 20)
	if n := p.b.Half(none); n != 0 {
		t.Errorf("17.1: Half into none: %d", n)
	}
	p.held()
	if n := none.Half(p.b); n != 0 {
		t.Errorf("17.1: Half of none: %d", n)
	}
	p.held()
	if n := none.Half(none); n != 0 {
		t.Errorf("17.1: Half of none into none: %d", n)
	}
}

// 17.1: Half into itself, and a Buffer that New did not make, do not panic.
func TestOdd(t *testing.T) {
	p := of(t, 1, 20)
	p.b.Half(p.b)
	p.b.All()
	p.b.Get()
	p.b.Put(1)
	var b buffer.Buffer
	b.Get()
	b.Put(1)
	b.All()
	b.Half(p.b)
	b.Len()
}
