package page

import (
	"math"
	"math/rand"
	"slices"
	"testing"

	"treadmill/api"
)

// table is the pages one by one, and what 5.1 says is done by going through all of them.
type table []bool

func newTable(n int) table {
	l := make(table, n)
	for i := 1; i < n; i++ {
		l[i] = true
	}
	return l
}

func (l table) runs() []api.Run {
	var all []api.Run
	for i, free := range l {
		switch {
		case !free:
		case i > 0 && l[i-1]:
			all[len(all)-1].Pages++
		default:
			all = append(all, api.Run{First: i, Pages: 1})
		}
	}
	return all
}

func (l table) left() int {
	left := 0
	for _, free := range l {
		if free {
			left++
		}
	}
	return left
}

func (l table) alloc(k int) (int, int) {
	if k < 1 {
		return 0, api.ErrArg
	}
	best := api.Run{Pages: math.MaxInt}
	for _, r := range l.runs() { // rising: of like ones the first stays
		if r.Pages >= k && r.Pages < best.Pages {
			best = r
		}
	}
	if best.First == 0 {
		return 0, api.ErrFull
	}
	for i := range k {
		l[best.First+i] = false
	}
	return best.First, api.OK
}

func (l table) free(first, k int) int {
	if k < 1 || first < 1 || first > len(l)-1 || k > len(l)-1 || first+k-1 > len(l)-1 {
		return api.ErrArg
	}
	for i := range k {
		if l[first+i] {
			return api.ErrState
		}
	}
	for i := range k {
		l[first+i] = true
	}
	return api.OK
}

// held tells where p is not as l.
func held(t *testing.T, p *Pages, l table) {
	t.Helper()
	if !slices.Equal(p.Runs(), l.runs()) || p.Left() != l.left() {
		t.Fatalf("5.1: of %d pages %v, %d left, not %v, %d", len(l), p.Runs(), p.Left(), l.runs(), l.left())
	}
}

// alloc holds an Alloc against the table's.
func alloc(t *testing.T, p *Pages, l table, k int) int {
	t.Helper()
	got, err := p.Alloc(k)
	want, no := l.alloc(k)
	if got != want || err != no {
		t.Fatalf("5.1: of %d pages Alloc(%d): %d, %d, not %d, %d", len(l), k, got, err, want, no)
	}
	held(t, p, l)
	return got
}

// free holds a Free against the table's.
func free(t *testing.T, p *Pages, l table, first, k int) {
	t.Helper()
	if err, no := p.Free(first, k), l.free(first, k); err != no {
		t.Fatalf("5.1: of %d pages Free(%d, %d): %d, not %d", len(l), first, k, err, no)
	}
	held(t, p, l)
}

// taken is pages of which all are taken, page by page.
func taken(t *testing.T, n int) (*Pages, table) {
	t.Helper()
	p, l := New(n), newTable(n)
	for i := 1; i < n; i++ {
		if got := alloc(t, p, l, 1); got != i {
			t.Fatalf("5.1: page %d of a run is %d", i, got)
		}
	}
	return p, l
}

// 5.1: New takes its number into 1 to MaxPages; page 0 is never free.
func TestNew(t *testing.T) {
	for _, x := range []struct{ n, want int }{
		{1, 1}, {2, 2}, {3, 3}, {64, 64}, {65, 65}, {0, 1}, {-1, 1}, {-64, 1}, {math.MinInt, 1},
		{1<<18 - 1, 1<<18 - 1}, {1 << 18, 1 << 18}, {1<<18 + 1, 1 << 18}, {1 << 30, 1 << 18}, {math.MaxInt, 1 << 18},
	} {
		p := New(x.n)
		if p == nil || p.Left() != x.want-1 {
			t.Fatalf("5.1: New(%d): %d left", x.n, p.Left())
		}
		want := []api.Run{{First: 1, Pages: x.want - 1}}
		if x.want == 1 {
			want = nil
		}
		if got := p.Runs(); !slices.Equal(got, want) {
			t.Errorf("5.1: New(%d): %v", x.n, got)
		}
		if err := p.Free(x.want, 1); err != api.ErrArg {
			t.Errorf("5.1: New(%d): a page behind the last: %d", x.n, err)
		}
	}
}

// 5.1: of one page there is none.
func TestNone(t *testing.T) {
	for _, n := range []int{1, 0, -5} {
		p := New(n)
		for _, k := range []int{1, 2, math.MaxInt} {
			if first, err := p.Alloc(k); first != 0 || err != api.ErrFull {
				t.Errorf("5.1: New(%d), Alloc(%d): %d, %d", n, k, first, err)
			}
		}
		for _, first := range []int{-1, 0, 1, 2} {
			if err := p.Free(first, 1); err != api.ErrArg {
				t.Errorf("5.1: New(%d), Free(%d, 1): %d", n, first, err)
			}
		}
	}
}

// 5.1: the most pages that there may be.
func TestMost(t *testing.T) {
	const last = 1<<18 - 1
	p := New(math.MaxInt)
	if first, err := p.Alloc(last + 1); first != 0 || err != api.ErrFull {
		t.Errorf("5.1: more pages than there are: %d, %d", first, err)
	}
	if first, err := p.Alloc(last); first != 1 || err != api.OK || p.Left() != 0 || len(p.Runs()) != 0 {
		t.Errorf("5.1: all pages: %d, %d", first, err)
	}
	if err := p.Free(last, 1); err != api.OK || !slices.Equal(p.Runs(), []api.Run{{First: last, Pages: 1}}) {
		t.Errorf("5.1: the last page: %d, %v", err, p.Runs())
	}
	if err := p.Free(1, last); err != api.ErrState || p.Left() != 1 {
		t.Errorf("5.1: all pages, one of them free: %d", err)
	}
	if err := p.Free(1, last-1); err != api.OK || !slices.Equal(p.Runs(), []api.Run{{First: 1, Pages: last}}) {
		t.Errorf("5.1: all pages but the last: %d, %v", err, p.Runs())
	}
}

// 5.1: the document's example.
func TestExample(t *testing.T) {
	p := New(5)
	if first, err := p.Alloc(2); first != 1 || err != api.OK {
		t.Errorf("5.1: Alloc(2): %d, %d", first, err)
	}
	if err := p.Free(1, 2); err != api.OK || !slices.Equal(p.Runs(), []api.Run{{First: 1, Pages: 4}}) {
		t.Errorf("5.1: Free(1, 2): %d, %v", err, p.Runs())
	}
}

// 5.1: what comes back is joined with the run ahead, the one behind, both, none.
func TestJoined(t *testing.T) {
	for _, x := range []struct {
		name string
		back [][2]int
		want []api.Run
	}{
		{"none", [][2]int{{2, 1}, {4, 1}, {6, 1}}, []api.Run{{First: 2, Pages: 1}, {First: 4, Pages: 1}, {First: 6, Pages: 1}}},
		{"ahead", [][2]int{{2, 2}, {4, 1}}, []api.Run{{First: 2, Pages: 3}}},
		{"behind", [][2]int{{4, 2}, {3, 1}}, []api.Run{{First: 3, Pages: 3}}},
		{"both", [][2]int{{1, 2}, {5, 3}, {3, 2}}, []api.Run{{First: 1, Pages: 7}}},
		{"both, of one page", [][2]int{{3, 1}, {5, 1}, {4, 1}}, []api.Run{{First: 3, Pages: 3}}},
		{"the ends", [][2]int{{1, 1}, {9, 1}}, []api.Run{{First: 1, Pages: 1}, {First: 9, Pages: 1}}},
		{"all", [][2]int{{1, 1}, {3, 1}, {5, 1}, {7, 1}, {9, 1}, {8, 1}, {2, 1}, {6, 1}, {4, 1}}, []api.Run{{First: 1, Pages: 9}}},
	} {
		p, l := taken(t, 10)
		for _, r := range x.back {
			free(t, p, l, r[0], r[1])
		}
		if got := p.Runs(); !slices.Equal(got, x.want) {
			t.Errorf("5.1: joined with %s: %v", x.name, got)
		}
		for _, r := range x.want { // a joined run is one for Alloc, too
			if first, err := p.Alloc(r.Pages); first != r.First || err != api.OK {
				t.Errorf("5.1: joined with %s: Alloc(%d): %d, %d", x.name, r.Pages, first, err)
			}
		}
		if p.Left() != 0 {
			t.Errorf("5.1: joined with %s: %d left", x.name, p.Left())
		}
	}
}

// 5.1: the least run that fits, and its first pages; what is left of it is a run.
func TestLeast(t *testing.T) {
	for _, x := range []struct{ k, want int }{{1, 20}, {2, 9}, {3, 9}, {4, 2}, {5, 2}, {6, 30}, {9, 30}, {10, 0}} {
		p, l := taken(t, 40)
		free(t, p, l, 2, 5)
		free(t, p, l, 9, 3)
		free(t, p, l, 20, 1)
		free(t, p, l, 30, 9)
		if got := alloc(t, p, l, x.k); got != x.want {
			t.Errorf("5.1: Alloc(%d): %d, not %d", x.k, got, x.want)
		}
	}
}

// 5.1: of like runs the one with the least first page, in whatever order they came, though lesser ones that do not fit stand there, too.
func TestLike(t *testing.T) {
	r := rand.New(rand.NewSource(5))
	for range 200 {
		p, l := taken(t, 60)
		for _, i := range r.Perm(10) {
			free(t, p, l, 6*i+1, 1+i%3)
		}
		for _, x := range []struct{ k, want int }{{3, 13}, {3, 31}, {3, 49}, {2, 7}, {2, 25}, {2, 43}} {
			if got := alloc(t, p, l, x.k); got != x.want {
				t.Fatalf("5.1: of like runs of %d pages %d, not %d", x.k, got, x.want)
			}
		}
	}
}

// 5.1: each error, the first one ahead of the other, and nothing has changed.
func TestErrors(t *testing.T) {
	p, l := New(10), newTable(10)
	alloc(t, p, l, 4) // 5 to 9 are free
	for _, k := range []int{0, -1, -9, math.MinInt} {
		if first, err := p.Alloc(k); first != 0 || err != api.ErrArg {
			t.Errorf("5.1: Alloc(%d): %d, %d", k, first, err)
		}
	}
	for _, k := range []int{6, 9, 10, math.MaxInt} {
		if first, err := p.Alloc(k); first != 0 || err != api.ErrFull {
			t.Errorf("5.1: Alloc(%d): %d, %d", k, first, err)
		}
	}
	for _, x := range []struct{ first, k, want int }{
		{1, 0, api.ErrArg}, {1, -1, api.ErrArg}, {1, math.MinInt, api.ErrArg}, {0, 1, api.ErrArg}, {0, 2, api.ErrArg}, {-1, 1, api.ErrArg}, {-1, 3, api.ErrArg},
		{10, 1, api.ErrArg}, {9, 2, api.ErrArg}, {1, 10, api.ErrArg}, {4, 7, api.ErrArg}, {5, 6, api.ErrArg},
		{1, math.MaxInt, api.ErrArg}, {2, math.MaxInt, api.ErrArg}, {math.MaxInt, 1, api.ErrArg}, {math.MaxInt, math.MaxInt, api.ErrArg}, {math.MinInt, 1, api.ErrArg}, {math.MinInt, math.MaxInt, api.ErrArg}, {math.MinInt, math.MinInt, api.ErrArg}, {0, math.MinInt, api.ErrArg},
		{5, 1, api.ErrState}, {9, 1, api.ErrState}, {5, 5, api.ErrState}, {4, 2, api.ErrState}, {1, 9, api.ErrState}, {1, 5, api.ErrState}, {7, 2, api.ErrState},
	} {
		if err := p.Free(x.first, x.k); err != x.want {
			t.Errorf("5.1: Free(%d, %d): %d, not %d", x.first, x.k, err, x.want)
		}
		held(t, p, l)
	}
	free(t, p, l, 2, 2)
	for _, x := range [][2]int{{1, 2}, {1, 4}, {2, 1}, {3, 2}, {2, 8}} {
		if err := p.Free(x[0], x[1]); err != api.ErrState {
			t.Errorf("5.1: Free(%d, %d), some of them free: %d", x[0], x[1], err)
		}
		held(t, p, l)
	}
	if err := p.Free(1, 1); err != api.OK {
		t.Errorf("5.1: Free(1, 1): %d", err)
	}
}

// 5.1: what was taken in one row may come back in parts, and what was taken in parts in one.
func TestParts(t *testing.T) {
	p, l := New(9), newTable(9)
	alloc(t, p, l, 8)
	free(t, p, l, 3, 2)
	free(t, p, l, 7, 1)
	free(t, p, l, 5, 2)
	if got := p.Runs(); !slices.Equal(got, []api.Run{{First: 3, Pages: 5}}) {
		t.Errorf("5.1: parts: %v", got)
	}
	p, l = taken(t, 9)
	free(t, p, l, 1, 8)
	if got := p.Runs(); !slices.Equal(got, []api.Run{{First: 1, Pages: 8}}) {
		t.Errorf("5.1: in one: %v", got)
	}
}

// 5.1: a nil Pages answers ErrArg and nothing; one that New did not make has no pages.
func TestNil(t *testing.T) {
	var none *Pages
	for _, k := range []int{0, 1, 5, -1, math.MaxInt, math.MinInt} {
		if first, err := none.Alloc(k); first != 0 || err != api.ErrArg {
			t.Errorf("5.1: a nil Pages: Alloc(%d): %d, %d", k, first, err)
		}
		for _, p := range []*Pages{none, {}} {
			if err := p.Free(k, 1); err != api.ErrArg {
				t.Errorf("5.1: of none: Free(%d, 1): %d", k, err)
			}
			if err := p.Free(1, k); err != api.ErrArg {
				t.Errorf("5.1: of none: Free(1, %d): %d", k, err)
			}
		}
	}
	for _, p := range []*Pages{none, {}} {
		if len(p.Runs()) != 0 || p.Left() != 0 {
			t.Errorf("5.1: of none: %v, %d", p.Runs(), p.Left())
		}
	}
	if first, err := new(Pages).Alloc(1); first != 0 || err != api.ErrFull {
		t.Errorf("5.1: of none: Alloc(1): %d, %d", first, err)
	}
}

// 5.1: Runs is the caller's own.
func TestRunsIsNew(t *testing.T) {
	p := New(9)
	a, b := p.Runs(), p.Runs()
	a[0] = api.Run{First: 4, Pages: 99}
	if want := []api.Run{{First: 1, Pages: 8}}; !slices.Equal(b, want) || !slices.Equal(p.Runs(), want) || p.Left() != 8 {
		t.Error("5.1: Runs hangs on the pages")
	}
	if first, err := p.Alloc(8); first != 1 || err != api.OK {
		t.Errorf("5.1: Runs hangs on the pages: Alloc(8): %d, %d", first, err)
	}
}

// 5.1: long rows of Alloc and Free, at several sizes, of what was taken and of anything.
func TestRows(t *testing.T) {
	r := rand.New(rand.NewSource(1))
	for _, n := range []int{1, 2, 3, 4, 5, 8, 17, 64, 200} {
		p, l := New(n), newTable(n)
		var mine []api.Run
		for range 3000 {
			switch k := r.Intn(10); {
			case k < 5:
				k = 1 + r.Intn(4)
				if first := alloc(t, p, l, k); first > 0 {
					mine = append(mine, api.Run{First: first, Pages: k})
				}
			case k < 8 && len(mine) > 0:
				at := r.Intn(len(mine))
				free(t, p, l, mine[at].First, mine[at].Pages)
				mine = slices.Delete(mine, at, at+1)
			case k == 8:
				alloc(t, p, l, r.Intn(n+3)-1)
				p, l, mine = New(n), newTable(n), nil
			default: // anything, also what is not mine: the rows that were mine are then the table's alone
				free(t, p, l, r.Intn(n+2)-1, r.Intn(6)-1)
				mine = slices.DeleteFunc(mine, func(x api.Run) bool { return slices.Contains(l[x.First:x.First+x.Pages], true) })
			}
		}
	}
}

// 5.2: no page is handed out that has not come back, nor page 0, nor one that there is not.
func TestOnce(t *testing.T) {
	r := rand.New(rand.NewSource(2))
	for _, n := range []int{2, 5, 33, 400, 5000} {
		p, out := New(n), make([]bool, n)
		var mine []api.Run
		count := 0
		for range 4000 {
			if len(mine) > 0 && r.Intn(5) < 2 {
				at := r.Intn(len(mine))
				x := mine[at]
				if err := p.Free(x.First, x.Pages); err != api.OK {
					t.Fatalf("5.2: Free(%d, %d): %d", x.First, x.Pages, err)
				}
				for i := range x.Pages {
					out[x.First+i] = false
				}
				count -= x.Pages
				mine = slices.Delete(mine, at, at+1)
				continue
			}
			k := 1 + r.Intn(7)
			first, err := p.Alloc(k)
			if err != api.OK {
				continue
			}
			if first < 1 || first+k > n {
				t.Fatalf("5.2: of %d pages %d from %d on", n, k, first)
			}
			for i := range k {
				if out[first+i] {
					t.Fatalf("5.2: page %d is handed out twice", first+i)
				}
				out[first+i] = true
			}
			count += k
			mine = append(mine, api.Run{First: first, Pages: k})
			if p.Left() != n-1-count {
				t.Fatalf("5.2: %d left of %d, %d out", p.Left(), n-1, count)
			}
		}
	}
}

// 5.1: as many runs as there may be: every other page comes back.
func TestManyRuns(t *testing.T) {
	const n = 1 << 18
	p := New(n)
	for i := 1; i < n; i++ {
		if first, err := p.Alloc(1); first != i || err != api.OK {
			t.Fatalf("5.1: page %d: %d, %d", i, first, err)
		}
	}
	for i := n - 1; i > 0; i -= 2 {
		if err := p.Free(i, 1); err != api.OK {
			t.Fatalf("5.1: Free(%d, 1): %d", i, err)
		}
	}
	if first, err := p.Alloc(2); first != 0 || err != api.ErrFull || p.Left() != n/2 || len(p.Runs()) != n/2 {
		t.Errorf("5.1: runs of one page alone: Alloc(2): %d, %d", first, err)
	}
	for _, i := range []int{n / 2, 600, n - 2} { // each joins two
		if err := p.Free(i, 1); err != api.OK {
			t.Errorf("5.1: Free(%d, 1): %d", i, err)
		}
	}
	for _, x := range []struct{ k, want int }{{3, 599}, {2, n/2 - 1}, {1, 1}, {1, 3}, {1, 5}, {3, n - 3}, {3, 0}, {1, 7}} {
		if first, _ := p.Alloc(x.k); first != x.want {
			t.Errorf("5.1: Alloc(%d): %d, not %d", x.k, first, x.want)
		}
	}
}
