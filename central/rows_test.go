package central_test

import (
	"slices"
	"testing"

	"treadmill/central"
)

// classes: how many there are, by hand.
const classes = 16

// which is a row: its class, and whether what stands in it is swept, and full.
type which struct {
	class       int
	swept, full bool
}

// rows is a Central as 8.1 tells it, all of it gone through each time.
type rows map[which][]int

func (l rows) del(id int) bool {
	for w, ids := range l {
		if i := slices.Index(ids, id); i >= 0 {
			l[w] = slices.Delete(ids, i, i+1)
			return true
		}
	}
	return false
}

func (l rows) put(class, id int, full bool) {
	if class < 0 || class >= classes {
		return
	}
	l.del(id)
	w := which{class, true, full}
	l[w] = append(l[w], id)
}

// last takes the last id of a row out.
func (l rows) last(w which) (int, bool) {
	n := len(l[w])
	if n == 0 {
		return 0, false
	}
	id := l[w][n-1]
	l[w] = l[w][:n-1]
	return id, true
}

func (l rows) take(class int) (int, bool, bool) {
	if id, ok := l.last(which{class, true, false}); ok {
		return id, false, true
	}
	id, ok := l.last(which{class, false, false})
	return id, ok, ok
}

func (l rows) takeFull(class int) (int, bool) {
	return l.last(which{class, false, true})
}

func (l rows) begin() {
	for class := range classes {
		for _, full := range []bool{false, true} {
			from, to := which{class, true, full}, which{class, false, full}
			l[to] = append(l[to], l[from]...)
			delete(l, from)
		}
	}
}

func (l rows) unswept() int {
	n := 0
	for w, ids := range l {
		if !w.swept {
			n += len(ids)
		}
	}
	return n
}

func (l rows) any() (int, int, bool) {
	for class := range classes {
		for _, full := range []bool{false, true} {
			w := which{class, false, full}
			if len(l[w]) > 0 {
				id := l[w][0]
				l[w] = l[w][1:]
				return class, id, true
			}
		}
	}
	return 0, 0, false
}

// pair is a Central and its rows: each call on both is held against one another, and how many are unswept behind it.
type pair struct {
	t *testing.T
	c *central.Central
	l rows
}

func both(t *testing.T) *pair {
	t.Helper()
	p := &pair{t, central.New(), rows{}}
	p.held()
	return p
}

func (p *pair) held() {
	p.t.Helper()
	if got, want := p.c.Unswept(), p.l.unswept(); got != want {
		p.t.Fatalf("8.1: %d unswept, not %d", got, want)
	}
}

func (p *pair) put(class, id int, full bool) {
	p.t.Helper()
	p.c.Put(class, id, full)
	p.l.put(class, id, full)
	p.held()
}

func (p *pair) take(class int) (int, bool, bool) {
	p.t.Helper()
	id, unswept, ok := p.c.Take(class)
	if a, b, c := p.l.take(class); id != a || unswept != b || ok != c {
		p.t.Fatalf("8.1: Take(%d): %d, %v, %v, not %d, %v, %v", class, id, unswept, ok, a, b, c)
	}
	p.held()
	return id, unswept, ok
}

func (p *pair) takeFull(class int) (int, bool) {
	p.t.Helper()
	id, ok := p.c.TakeFull(class)
	if a, b := p.l.takeFull(class); id != a || ok != b {
		p.t.Fatalf("8.1: TakeFull(%d): %d, %v, not %d, %v", class, id, ok, a, b)
	}
	p.held()
	return id, ok
}

func (p *pair) begin() {
	p.t.Helper()
	p.c.Begin()
	p.l.begin()
	p.held()
}

func (p *pair) any() (int, int, bool) {
	p.t.Helper()
	class, id, ok := p.c.Any()
	if a, b, c := p.l.any(); class != a || id != b || ok != c {
		p.t.Fatalf("8.1: Any: %d, %d, %v, not %d, %d, %v", class, id, ok, a, b, c)
	}
	p.held()
	return class, id, ok
}

func (p *pair) del(id int) bool {
	p.t.Helper()
	got := p.c.Del(id)
	if want := p.l.del(id); got != want {
		p.t.Fatalf("8.1: Del(%d): %v", id, got)
	}
	p.held()
	return got
}

// empty takes all ids out by Any, those that are swept last.
func (p *pair) empty() {
	p.t.Helper()
	for range 2 {
		for ok := true; ok; {
			_, _, ok = p.any()
		}
		p.begin()
	}
	p.none()
}

// ends takes all ids out by Take and TakeFull.
func (p *pair) ends() {
	p.t.Helper()
	for range 2 {
		for class := range classes {
			for ok := true; ok; {
				_, _, ok = p.take(class)
			}
			for ok := true; ok; {
				_, ok = p.takeFull(class)
			}
		}
		p.begin()
	}
	p.none()
}

// none holds that no id is left.
func (p *pair) none() {
	p.t.Helper()
	p.begin()
	if n := p.c.Unswept(); n != 0 {
		p.t.Fatalf("8.1: %d ids left, not 0", n)
	}
	if _, _, ok := p.any(); ok {
		p.t.Fatal("8.1: an id is left")
	}
}
