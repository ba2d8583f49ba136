package roots_test

import (
	"math"
	"math/rand"
	"slices"
	"testing"

	"treadmill/api"
	"treadmill/roots"
)

// pair is Roots and their list of jobs: each call on both is held against one another, and how many are left behind it.
type pair struct {
	t *testing.T
	r *roots.Roots
	l []api.Job
}

// stack is the job of a goroutine's stack, as 21.1 tells it.
func stack(g int) api.Job {
	return api.Job{G: g, From: 0, To: 16}
}

// both lays the list global by global: each eighth one begins a job.
func both(t *testing.T, globals int, gs []int) *pair {
	t.Helper()
	p := &pair{t: t, r: roots.New(globals, gs)}
	for i := 0; i < globals; i++ {
		if i%8 == 0 {
			p.l = append(p.l, api.Job{G: -1, From: i})
		}
		p.l[len(p.l)-1].To = i + 1
	}
	for _, g := range gs {
		p.l = append(p.l, stack(g))
	}
	p.held()
	return p
}

func (p *pair) held() {
	p.t.Helper()
	if got := p.r.Left(); got != len(p.l) {
		p.t.Fatalf("21.1: Left: %d, not %d", got, len(p.l))
	}
}

func (p *pair) next() (api.Job, bool) {
	p.t.Helper()
	var want api.Job
	some := len(p.l) > 0
	if some {
		want, p.l = p.l[0], slices.Clone(p.l[1:])
	}
	job, ok := p.r.Next()
	if job != want || ok != some {
		p.t.Fatalf("21.1: Next: %v, %v, not %v, %v", job, ok, want, some)
	}
	p.held()
	return job, ok
}

func (p *pair) add(g int) {
	p.t.Helper()
	if !slices.Contains(p.l, stack(g)) {
		p.l = append(slices.Clone(p.l), stack(g))
	}
	p.r.Add(g)
	p.held()
}

// drain is all jobs one by one, and some more, when there is none.
func (p *pair) drain() []api.Job {
	p.t.Helper()
	var all []api.Job
	for job, some := p.next(); some; job, some = p.next() {
		all = append(all, job)
	}
	for range 2 {
		if job, some := p.next(); some || job != (api.Job{}) {
			p.t.Errorf("21.1: Next of none: %v, %v", job, some)
		}
	}
	return all
}

// 21.1: the document's example.
func TestExample(t *testing.T) {
	got := both(t, 9, nil).drain()
	if want := []api.Job{{G: -1, From: 0, To: 8}, {G: -1, From: 8, To: 9}}; !slices.Equal(got, want) {
		t.Errorf("21.1: of 9 globals: %v", got)
	}
}

// 21.1: globals 8 at a time, the last job of fewer, by hand.
func TestGlobals(t *testing.T) {
	if api.Stack != 16 {
		t.Fatalf("Stack is %d", api.Stack)
	}
	for _, x := range []struct {
		globals int
		ends    []int // of each job; it begins where the one ahead of it ends
	}{
		{0, nil}, {1, []int{1}}, {7, []int{7}}, {8, []int{8}}, {9, []int{8, 9}}, {15, []int{8, 15}}, {16, []int{8, 16}}, {17, []int{8, 16, 17}},
		{31, []int{8, 16, 24, 31}}, {32, []int{8, 16, 24, 32}}, {33, []int{8, 16, 24, 32, 33}},
		{100, []int{8, 16, 24, 32, 40, 48, 56, 64, 72, 80, 88, 96, 100}},
	} {
		for _, gs := range [][]int{nil, {}, {5}} {
			var want []api.Job
			from := 0
			for _, to := range x.ends {
				want = append(want, api.Job{G: -1, From: from, To: to})
				from = to
			}
			for _, g := range gs {
				want = append(want, api.Job{G: g, From: 0, To: 16})
			}
			p := both(t, x.globals, gs)
			if p.r.Left() != len(want) {
				t.Errorf("21.1: of %d globals and %v %d are left", x.globals, gs, p.r.Left())
			}
			if got := p.drain(); !slices.Equal(got, want) {
				t.Errorf("21.1: of %d globals and %v: %v", x.globals, gs, got)
			}
		}
	}
}

// 21.1: of fewer than one global there is no job.
func TestBelowOne(t *testing.T) {
	for _, globals := range []int{0, -1, -7, -8, -9, math.MinInt, math.MinInt + 1, math.MinInt32} {
		if got := both(t, globals, nil).drain(); len(got) != 0 {
			t.Errorf("21.1: of %d globals: %v", globals, got)
		}
		if got := both(t, globals, []int{3}).drain(); !slices.Equal(got, []api.Job{{G: 3, From: 0, To: 16}}) {
			t.Errorf("21.1: of %d globals and one stack: %v", globals, got)
		}
	}
}

// 21.1: each of gs has a job, in their order: the same one twice has two, and any number may be one.
func TestGs(t *testing.T) {
	for _, gs := range [][]int{{0}, {2, 0, 1}, {4, 4}, {4, 5, 4, 4}, {-1, -1}, {math.MaxInt, math.MinInt, -1, 0, 1 << 32}} {
		for _, globals := range []int{0, 8, 20} {
			got := both(t, globals, gs).drain()
			for i, job := range got[len(got)-len(gs):] {
				if job != (api.Job{G: gs[i], From: 0, To: 16}) {
					t.Errorf("21.1: of %v: %v", gs, got)
				}
			}
		}
	}
}

// 21.1: Add of one whose job is left lays none; of one whose job was taken, and of one that was not there, it lays one behind all others.
func TestAdd(t *testing.T) {
	p := both(t, 9, []int{6, 4})
	p.add(4)
	p.add(6)
	p.add(6)
	if p.r.Left() != 4 {
		t.Errorf("21.1: Add of ones that are left: %d", p.r.Left())
	}
	p.add(1)
	p.add(1)
	if p.r.Left() != 5 {
		t.Errorf("21.1: Add of one that was not there: %d", p.r.Left())
	}
	p.next()
	p.next()
	if job, _ := p.next(); job.G != 6 {
		t.Errorf("21.1: Next: %v", job)
	}
	p.add(6)
	p.add(6)
	p.add(4)
	if got := p.drain(); !slices.Equal(got, []api.Job{stack(4), stack(1), stack(6)}) {
		t.Errorf("21.1: behind Add of one whose job was taken: %v", got)
	}
	p.add(6)
	p.add(7)
	p.add(6)
	if got := p.drain(); !slices.Equal(got, []api.Job{stack(6), stack(7)}) {
		t.Errorf("21.1: behind Add to none: %v", got)
	}
}

// 21.1: of one that is there twice a job is left till both were taken.
func TestAddTwice(t *testing.T) {
	p := both(t, 0, []int{4, 4})
	p.add(4)
	p.next()
	p.add(4)
	if p.r.Left() != 1 {
		t.Errorf("21.1: Add of one that is left: %d", p.r.Left())
	}
	p.next()
	p.add(4)
	if p.r.Left() != 1 {
		t.Errorf("21.1: Add of one whose jobs were taken: %d", p.r.Left())
	}
}

// 21.1: a job of globals is no goroutine's, whatever its G is; what is added comes behind all of them.
func TestAddBesideGlobals(t *testing.T) {
	for _, globals := range []int{1, 8, 40, 100} {
		p := both(t, globals, nil)
		p.add(-1)
		p.add(0)
		p.next()
		p.add(-1)
		p.add(3)
		got := p.drain()
		if got := got[len(got)-3:]; !slices.Equal(got, []api.Job{{G: -1, From: 0, To: 16}, stack(0), stack(3)}) {
			t.Errorf("21.1: behind Add beside %d globals: %v", globals, got)
		}
	}
}

// 21.1, 21.2: globals without number: jobs of the first ones, and how many are left.
func TestMany(t *testing.T) {
	for _, globals := range []int{1 << 40, math.MaxInt - 7, math.MaxInt} {
		r := roots.New(globals, []int{1})
		all := globals/8 + 2
		if globals%8 == 0 {
			all--
		}
		for n := range 100 {
			if r.Left() != all-n {
				t.Fatalf("21.1: of %d globals %d are left behind %d", globals, r.Left(), n)
			}
			if job, some := r.Next(); !some || job != (api.Job{G: -1, From: n * 8, To: n*8 + 8}) {
				t.Fatalf("21.1: of %d globals: %v, %v", globals, job, some)
			}
		}
	}
}

// 21.1: long rows of Next and Add, against the list.
func TestRows(t *testing.T) {
	r := rand.New(rand.NewSource(21))
	for range 400 {
		gs := make([]int, r.Intn(12))
		for i := range gs {
			gs[i] = r.Intn(12) - 1
		}
		p := both(t, r.Intn(60)-5, gs)
		adds := r.Intn(10)
		for range 60 {
			if r.Intn(10) < adds {
				p.add(r.Intn(14) - 2)
			} else {
				p.next()
			}
		}
		p.drain()
	}
}

// 21.2: each global is in one job, of at most 8, whatever is added on the way.
func TestEachGlobal(t *testing.T) {
	for globals := range 300 {
		r := roots.New(globals, []int{2, 7})
		in := make([]int, globals)
		for job, some := r.Next(); some; job, some = r.Next() {
			if job.G != -1 {
				continue
			}
			if job.To-job.From < 1 || job.To-job.From > 8 || job.From < 0 || job.To > globals {
				t.Fatalf("21.2: of %d globals: %v", globals, job)
			}
			for i := job.From; i < job.To; i++ {
				in[i]++
			}
			r.Add(job.From)
		}
		for i, n := range in {
			if n != 1 {
				t.Fatalf("21.2: global %d of %d is in %d jobs", i, globals, n)
			}
		}
	}
}

// 21.1: what is handed in is not changed, and not kept.
func TestListIsNotKept(t *testing.T) {
	gs := make([]int, 3, 10)
	copy(gs, []int{5, 6, 7})
	p := both(t, 3, gs)
	p.add(9)
	if all := gs[:10]; !slices.Equal(all, []int{5, 6, 7, 0, 0, 0, 0, 0, 0, 0}) {
		t.Errorf("21.1: what was handed in is %v", all)
	}
	clear(gs)
	p.drain()
}

// 21.1: nil Roots have nothing.
func TestNil(t *testing.T) {
	var none *roots.Roots
	for range 2 {
		if job, some := none.Next(); some || job != (api.Job{}) || none.Left() != 0 {
			t.Errorf("21.1: of none: %v, %v, %d", job, some, none.Left())
		}
		none.Add(1)
	}
}

// 21.1: Roots that New did not make do not panic.
func TestNotNew(t *testing.T) {
	var r roots.Roots
	r.Next()
	r.Left()
	r.Add(1)
	r.Next()
}
