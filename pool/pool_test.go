package pool_test

import (
	"math"
	"math/rand"
	"slices"
	"testing"

	"treadmill/api"
	"treadmill/pool"
)

// 18.1: the document's example.
func TestExample(t *testing.T) {
	p := both(t, 2)
	if err := p.put(0, 5); err != api.OK {
		t.Errorf("18.1: Put(0, 5): %d", err)
	}
	p.flush(0)
	p.gets(1, 5)
}

// 18.1: New from 1 to MaxPs, and of no others.
func TestNew(t *testing.T) {
	for ps := -3; ps < 70; ps++ {
		w, err := pool.New(ps)
		if may := ps >= 1 && ps <= 64; may != (err == api.OK) || may != (w != nil) || !may && err != api.ErrArg {
			t.Errorf("18.1: New(%d): %v, %d", ps, w, err)
		}
	}
	for _, ps := range []int{1 << 20, 1 << 32, 1<<32 + 1, math.MaxInt, math.MinInt} {
		if w, err := pool.New(ps); w != nil || err != api.ErrArg {
			t.Errorf("18.1: New(%d): %v, %d", ps, w, err)
		}
	}
	p := both(t, 64)
	for i := range 64 {
		p.put(i, 1+i)
	}
	for i := range 64 {
		p.gets(i, 1+i)
		p.get(i)
	}
}

// 18.1: Put over one that is full, then over both, with no empty one in common.
func TestPutOver(t *testing.T) {
	p := both(t, 2)
	p.puts(0, 1, 64)
	if full, empty := p.w.Lists(); full != 0 || empty != 0 || p.w.Flushed(0) {
		t.Errorf("18.1: behind 64: %d, %d, %v", full, empty, p.w.Flushed(0))
	}
	p.put(0, 65) // 1 to 32 go: they are one, as it is turned
	if full, empty := p.w.Lists(); full != 1 || empty != 0 || !p.w.Flushed(0) || p.w.Flushed(1) || p.w.Local(0) != 33 {
		t.Errorf("18.1: behind 65: %d, %d, %v, %d", full, empty, p.w.Flushed(0), p.w.Local(0))
	}
	p.gets(1, 32, 31, 30)
	p.gets(0, 65, 64, 63)
	p.drain()
}

// 18.1: Put over both, with empty ones in common: the last of these is taken, and none is new.
func TestPutOverEmpty(t *testing.T) {
	p := both(t, 2)
	p.puts(0, 1, 10)
	p.flush(0)
	p.puts(0, 20, 10)
	p.flush(0)
	p.gets(1, 29, 28)
	if full, empty := p.w.Lists(); full != 1 || empty != 1 {
		t.Errorf("18.1: Lists: %d, %d", full, empty)
	}
	p.puts(0, 100, 65)
	if full, empty := p.w.Lists(); full != 2 || empty != 0 {
		t.Errorf("18.1: behind Put over both: %d, %d", full, empty)
	}
	p.puts(0, 200, 64)
	if full, empty := p.w.Lists(); full != 4 || empty != 0 {
		t.Errorf("18.1: behind Put over both, and none is empty: %d, %d", full, empty)
	}
	p.drain()
}

// 18.1: Put of no P, and of 0: nothing has changed. Any other number may be put.
func TestPutWrong(t *testing.T) {
	p := both(t, 3)
	for range 2 {
		for _, i := range append([]int{3, 4, 63}, far...) {
			for _, v := range []int{0, 1, -1} {
				if err := p.put(i, v); err != api.ErrArg {
					t.Errorf("18.1: Put(%d, %d): %d", i, v, err)
				}
			}
		}
		for i := range 3 {
			if err := p.put(i, 0); err != api.ErrArg {
				t.Errorf("18.1: Put(%d, 0): %d", i, err)
			}
		}
		p.puts(1, 1, 64) // the next one would be over both
	}
	for _, v := range []int{-1, math.MaxInt, math.MinInt, 1 << 32, 7, 7} {
		p.put(0, v)
	}
	p.gets(0, 7, 7, 1<<32, math.MinInt, math.MaxInt, -1)
}

// 18.1: Get turns, takes a full one, and finds none; one that was empty is an empty one in common.
func TestGet(t *testing.T) {
	p := both(t, 2)
	for range 3 {
		if v, some := p.get(0); v != 0 || some {
			t.Errorf("18.1: Get of none: %d, %v", v, some)
		}
	}
	p.puts(0, 1, 33) // 1 to 32 in two, 33 in one
	p.gets(0, 33, 32, 31)
	if full, empty := p.w.Lists(); full != 0 || empty != 0 {
		t.Errorf("18.1: behind a Get that turned: %d, %d", full, empty)
	}
	p.puts(1, 100, 5)
	p.flush(1)
	p.puts(1, 200, 5)
	p.flush(1)
	p.gets(0, 30)
	for v := 29; v > 0; v-- {
		p.gets(0, v)
	}
	p.gets(0, 204) // the last full one
	if full, empty := p.w.Lists(); full != 1 || empty != 1 {
		t.Errorf("18.1: behind a Get of a full one: %d, %d", full, empty)
	}
	p.gets(1, 104)
	if full, empty := p.w.Lists(); full != 0 || empty != 2 {
		t.Errorf("18.1: behind a Get of a full one: %d, %d", full, empty)
	}
	p.drain()
	for i := range 2 {
		if v, some := p.get(i); v != 0 || some {
			t.Errorf("18.1: Get of none: %d, %v", v, some)
		}
	}
	if full, empty := p.w.Lists(); full != 0 || empty != 2 {
		t.Errorf("18.1: behind a Get of none: %d, %d", full, empty)
	}
}

// 18.1: Give with two, which goes whole, and with none in two: half of one, if that has more than 4.
func TestGive(t *testing.T) {
	for n := range 65 {
		p := both(t, 2)
		p.puts(0, 1, n)
		gave := p.give(0)
		if gave != (n > 4) || p.w.Flushed(0) != gave {
			t.Errorf("18.1: Give of %d: %v, %v", n, gave, p.w.Flushed(0))
		}
		left := n
		switch {
		case n > 32:
			left = n - 32
		case n > 4:
			left = n - n/2
		}
		if p.w.Local(0) != left || p.w.Len() != n {
			t.Errorf("18.1: behind Give of %d: %d are left of %d", n, p.w.Local(0), p.w.Len())
		}
		p.give(0)
		p.give(0)
		p.get(1)
		p.drain()
	}
	p := both(t, 2)
	p.puts(0, 1, 5)
	p.give(0)
	p.gets(1, 5, 4)
	p.gets(0, 3, 2, 1)
	p.puts(0, 1, 33)
	p.give(0)
	p.gets(1, 32, 31)
	p.gets(0, 33)
}

// 18.1: what Give takes for half of one is a new buffer, what takes the place of two an empty one.
func TestGiveLists(t *testing.T) {
	p := both(t, 2)
	p.put(0, 1)
	p.flush(0)
	p.gets(1, 1)
	if full, empty := p.w.Lists(); full != 0 || empty != 1 {
		t.Fatalf("18.1: Lists: %d, %d", full, empty)
	}
	p.puts(0, 1, 8)
	p.give(0)
	if full, empty := p.w.Lists(); full != 1 || empty != 1 {
		t.Errorf("18.1: behind Give of half of one: %d, %d", full, empty)
	}
	p.puts(0, 10, 29)
	p.give(0)
	if full, empty := p.w.Lists(); full != 2 || empty != 0 {
		t.Errorf("18.1: behind Give of two: %d, %d", full, empty)
	}
	p.drain()
}

// 18.1: Flush of one, of both, one ahead of two; of nothing it has not flushed.
func TestFlush(t *testing.T) {
	for _, x := range []struct{ n, full int }{{0, 0}, {1, 1}, {32, 1}, {33, 2}, {64, 2}} {
		p := both(t, 2)
		p.puts(0, 1, x.n)
		p.flush(0)
		if full, empty := p.w.Lists(); full != x.full || empty != 0 || p.w.Flushed(0) != (x.n > 0) || p.w.Local(0) != 0 || p.w.Len() != x.n {
			t.Errorf("18.1: Flush of %d: %d, %d, %v", x.n, full, empty, p.w.Flushed(0))
		}
		p.reset(0)
		p.flush(0)
		if p.w.Flushed(0) {
			t.Error("18.1: Flush of nothing: flushed")
		}
		p.puts(0, 100, 3)
		p.drain()
	}
	p := both(t, 2)
	p.puts(0, 1, 33)
	p.flush(0)
	p.gets(1, 32, 31) // two is the last full one
	p.drain()
	p.puts(0, 1, 33)
	p.gets(0, 33) // two is full, one empty
	p.flush(0)
	if full, _ := p.w.Lists(); full != 1 {
		t.Errorf("18.1: Flush of two alone: %d", full)
	}
	p.drain()
}

// 18.1: Flushed of each P alone, till Reset.
func TestFlushed(t *testing.T) {
	p := both(t, 4)
	for i := range 4 {
		p.put(i, 9)
		p.flush(i)
		p.put(i, 9)
	}
	p.reset(2)
	p.reset(2)
	for i := range 4 {
		if p.w.Flushed(i) != (i != 2) {
			t.Errorf("18.1: Flushed(%d): %v", i, p.w.Flushed(i))
		}
	}
	p.flush(2)
	p.reset(0)
	p.get(0)
	p.get(0)
	p.get(0)
	if p.w.Flushed(0) || !p.w.Flushed(2) {
		t.Error("18.1: Get has flushed, or Flush has not")
	}
}

// 18.1: of no P there is nothing, and nothing is done.
func TestNoP(t *testing.T) {
	p := both(t, 2)
	p.puts(0, 1, 70)
	p.puts(1, 1, 40)
	for _, i := range append([]int{2, 3, 63}, far...) {
		p.flush(i)
		p.reset(i)
		if v, some := p.get(i); v != 0 || some || p.give(i) || p.w.Flushed(i) || p.w.Local(i) != 0 {
			t.Errorf("18.1: of P %d: something", i)
		}
	}
}

// 18.1: long rows of all calls of several Ps, against the buffers one by one.
func TestRows(t *testing.T) {
	r := rand.New(rand.NewSource(18))
	for round := range 120 {
		ps := 1 + r.Intn(5)
		if round%30 == 29 {
			ps = 64
		}
		p := both(t, ps)
		v := 0
		for range 250 {
			i := r.Intn(ps+2) - 1
			n := r.Intn(1 + r.Intn(50))
			switch what := r.Intn(100); {
			case what < 40+round%20:
				p.puts(i, v, n)
				v += n
			case what < 75:
				for range n {
					p.get(i)
				}
			case what < 85:
				p.give(i)
			case what < 93:
				p.flush(i)
			default:
				p.reset(i)
			}
		}
		p.drain()
	}
}

// 18.2: what was put is got, once, whichever P asks.
func TestOnce(t *testing.T) {
	r := rand.New(rand.NewSource(182))
	for range 20 {
		ps := 1 + r.Intn(6)
		w, _ := pool.New(ps)
		var put, got []int
		for range 3000 {
			i := r.Intn(ps)
			switch what := r.Intn(100); {
			case what < 55:
				put = append(put, len(put)+1)
				if err := w.Put(i, len(put)); err != api.OK {
					t.Fatalf("18.1: Put: %d", err)
				}
			case what < 94:
				if v, some := w.Get(i); some {
					got = append(got, v)
				}
			case what < 97:
				w.Give(i)
			default:
				w.Flush(i)
			}
			if w.Len() != len(put)-len(got) {
				t.Fatalf("18.2: Len: %d, of %d that were put and %d that were got", w.Len(), len(put), len(got))
			}
		}
		for i := range ps {
			for v, some := w.Get(i); some; v, some = w.Get(i) {
				got = append(got, v)
			}
		}
		slices.Sort(got)
		if !slices.Equal(got, put) || w.Len() != 0 {
			t.Fatalf("18.2: %d were put, and %d got", len(put), len(got))
		}
	}
}

// 18.1: a nil Pool has nothing, and no Ps.
func TestNil(t *testing.T) {
	var none *pool.Pool
	for _, i := range append([]int{0, 1, 63}, far...) {
		none.Flush(i)
		none.Reset(i)
		if err := none.Put(i, 1); err != api.ErrArg {
			t.Errorf("18.1: Put(%d, 1) of none: %d", i, err)
		}
		if v, some := none.Get(i); v != 0 || some || none.Give(i) || none.Flushed(i) || none.Local(i) != 0 {
			t.Errorf("18.1: of none: something of %d", i)
		}
	}
	if full, empty := none.Lists(); full != 0 || empty != 0 || none.Len() != 0 {
		t.Errorf("18.1: Lists of none: %d, %d", full, empty)
	}
}

// 18.1: a Pool that New did not make does not panic.
func TestNotNew(t *testing.T) {
	var w pool.Pool
	w.Put(0, 1)
	w.Get(0)
	w.Give(0)
	w.Flush(0)
	w.Flushed(0)
	w.Reset(0)
	w.Local(0)
	w.Len()
	w.Lists()
}
