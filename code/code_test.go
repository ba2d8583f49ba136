package code_test

import (
	"bytes"
	"math"
	"math/rand"
	"slices"
	"testing"

	"treadmill/api"
	"treadmill/code"
)

// far: numbers that may stand nowhere.
var far = []int{-1, -2, -256, 256, 257, 1 << 16, 1 << 32, 1<<32 + 1, math.MaxInt32, math.MinInt32, math.MaxInt, math.MinInt, math.MinInt + 1}

// decode holds Decode of b against read.
func decode(t *testing.T, b []byte) (api.Program, int, int) {
	t.Helper()
	p, err, at := code.Decode(slices.Clone(b))
	wantP, wantErr, wantAt := read(b)
	if err != wantErr || at != wantAt {
		t.Fatalf("15.2: Decode(% x): %d, %d, not %d, %d", b, err, at, wantErr, wantAt)
	}
	if !same(p, wantP) {
		t.Fatalf("15.2: Decode(% x): %v, not %v", b, p, wantP)
	}
	return p, err, at
}

// bad holds a script that is wrong at one byte.
func bad(t *testing.T, b []byte, at int) {
	t.Helper()
	if p, err, got := decode(t, b); err != api.ErrBad || got != at || p.Globals != 0 || len(p.Funcs) != 0 {
		t.Errorf("15.2: Decode(% x): %v, %d, %d, not at %d", b, p, err, got, at)
	}
}

// whole holds a program that may be: its May, its bytes, and that they are it.
func whole(t *testing.T, p api.Program) []byte {
	t.Helper()
	if n := code.May(p); n != 0 {
		t.Fatalf("15.2: May(%v): %d", p, n)
	}
	b, err := code.Encode(p)
	if err != api.OK || !bytes.Equal(b, write(p)) {
		t.Fatalf("15.2: Encode(%v): % x, %d", p, b, err)
	}
	if got, err, at := code.Decode(b); err != api.OK || at != 0 || !same(got, p) {
		t.Fatalf("15.3: Decode of Encode of %v: %v, %d, %d", p, got, err, at)
	}
	return b
}

// none holds a program that may not be.
func none(t *testing.T, p api.Program, may int) {
	t.Helper()
	if n := code.May(p); n != may {
		t.Fatalf("15.2: May(%v): %d, not %d", p, n, may)
	}
	if b, err := code.Encode(p); err != api.ErrArg || len(b) != 0 {
		t.Fatalf("15.2: Encode(%v): % x, %d", p, b, err)
	}
}

// 15.1: the document's example.
func TestExample(t *testing.T) {
	p, err, at := decode(t, []byte{1, 0, 1, 0, 0, 0, 0})
	if err != api.OK || at != 0 || !same(p, exits(0, 1)) {
		t.Errorf("15.2: %v, %d, %d", p, err, at)
	}
	if b := whole(t, exits(0, 1)); !bytes.Equal(b, []byte{1, 0, 1, 0, 0, 0, 0}) {
		t.Errorf("15.2: Encode: % x", b)
	}
}

// 15.1: each kind of instruction by hand: a script of all of them, each field at its greatest.
func TestKinds(t *testing.T) {
	insts := []api.Inst{
		{Op: api.OpExit},
		{Op: api.OpAlloc, A: 15, B: 255},
		{Op: api.OpLoad, A: 15, B: 15, C: 255},
		{Op: api.OpStore, A: 15, B: 255, C: 15},
		{Op: api.OpMove, A: 15, B: 15},
		{Op: api.OpNil, A: 15},
		{Op: api.OpGet, A: 15, B: 4},
		{Op: api.OpPut, A: 4, B: 15},
		{Op: api.OpSpawn, A: 1, B: 15},
		{Op: api.OpYield},
		{Op: api.OpSleep, B: 255, C: 255},
		{Op: api.OpBlock, A: 31},
		{Op: api.OpWake, A: 31},
		{Op: api.OpEq, A: 15, B: 15},
		{Op: api.OpJump, A: 17},
		{Op: api.OpJeq, A: 15, B: 15, C: 17},
		{Op: api.OpSet, A: 255, B: 255},
		{Op: api.OpDec, A: 17},
	}
	p := api.Program{Globals: 5, Funcs: [][]api.Inst{insts, {{Op: api.OpYield}}}}
	b := whole(t, p)
	decode(t, b)
	for i := range insts {
		for field := range 3 {
			more := append(slices.Clone(b), 0)[:len(b)]
			k := 3 + 4*i + 1 + field
			if more[k] == 255 {
				continue
			}
			more[k]++
			bad(t, more, k)
		}
	}
}

// 15.1: each kind of instruction, each field at every byte, the others as they may be: what Decode and May answer.
func TestFields(t *testing.T) {
	for _, form := range []struct{ globals, funcs, length int }{{0, 1, 1}, {1, 1, 2}, {32, 2, 64}, {31, 16, 2}, {7, 3, 9}} {
		p := exits(form.globals, slices.Repeat([]int{form.length}, form.funcs)...)
		f, i := form.funcs-1, form.length-1
		ahead := f*form.length + i
		for op := range 20 {
			for field := range 3 {
				for n := range 256 {
					in := api.Inst{Op: op}
					*[]*int{&in.A, &in.B, &in.C}[field] = n
					p.Funcs[f][i] = in
					decode(t, write(p))
					if mayStand(in, form.globals, form.funcs, form.length) {
						whole(t, p)
					} else {
						none(t, p, 1+ahead+1)
					}
				}
			}
		}
	}
}

// 15.2: numbers of an instruction that are no bytes may not stand anywhere.
func TestFar(t *testing.T) {
	for op := range 18 {
		p := exits(3, 2)
		for _, n := range far {
			for _, in := range []api.Inst{{Op: op, A: n}, {Op: op, B: n}, {Op: op, C: n}} {
				p.Funcs[0][1] = in
				none(t, p, 3)
			}
		}
	}
	for _, op := range append([]int{18, 19, 255}, far...) {
		p := exits(3, 1)
		p.Funcs[0][0].Op = op
		none(t, p, 2)
	}
}

// 15.1: numbers of functions, globals and instructions at and beside their bounds, as bytes.
func TestCounts(t *testing.T) {
	for n := range 256 {
		b := append([]byte{byte(n), 0}, bytes.Repeat([]byte{1, 0, 0, 0, 0}, n)...)
		if _, err, at := decode(t, b); (err == api.OK) != (n >= 1 && n <= 16) || err != api.OK && at != 0 {
			t.Errorf("15.1: of %d functions: %d, %d", n, err, at)
		}
		b = []byte{1, byte(n), 1, 0, 0, 0, 0}
		if _, err, at := decode(t, b); (err == api.OK) != (n <= 32) || err != api.OK && at != 1 {
			t.Errorf("15.1: of %d globals: %d, %d", n, err, at)
		}
		b = append([]byte{2, 0, 1, 0, 0, 0, 0, byte(n)}, make([]byte, 4*n)...)
		if _, err, at := decode(t, b); (err == api.OK) != (n >= 1 && n <= 64) || err != api.OK && at != 7 {
			t.Errorf("15.1: of %d instructions: %d, %d", n, err, at)
		}
	}
}

// 15.2: numbers of functions, globals and instructions at and beside their bounds, of programs: ahead of an instruction that may not be.
func TestMayCounts(t *testing.T) {
	wrong := api.Inst{Op: 18}
	for _, x := range []struct {
		globals int
		lengths []int
		may     bool
	}{
		{0, nil, false}, {0, []int{}, false}, {0, []int{1}, true}, {32, slices.Repeat([]int{64}, 16), true}, {0, slices.Repeat([]int{1}, 17), false},
		{0, slices.Repeat([]int{1}, 272), false}, {-1, []int{1}, false}, {33, []int{1}, false}, {256, []int{1}, false}, {math.MaxInt, []int{1}, false}, {math.MinInt, []int{1}, false},
		{1 << 32, []int{1}, false}, {5, []int{0}, false}, {5, []int{65}, false}, {5, []int{64}, true}, {5, []int{257}, false}, {5, []int{1, 0}, false}, {5, []int{0, 1}, false},
		{5, []int{1, 2, 65}, false}, {5, []int{64, 64, 64}, true}, {5, []int{1, 1, 1, 0}, false},
	} {
		p := exits(x.globals, x.lengths...)
		if x.may {
			whole(t, p)
		} else {
			none(t, p, 1)
		}
		if len(x.lengths) > 0 && x.lengths[0] > 0 {
			p.Funcs[0][0] = wrong
			if x.may {
				none(t, p, 2)
			} else {
				none(t, p, 1)
			}
		}
	}
}

// 15.2: May tells the first instruction that may not be, counted through all functions; the very first one is 2.
func TestMayFirst(t *testing.T) {
	lengths := []int{1, 5, 2, 64, 3}
	wrong := []api.Inst{{Op: 18}, {Op: -1}, {Op: api.OpExit, A: 1}, {Op: api.OpMove, A: 16}, {Op: api.OpGet, B: 4}, {Op: api.OpSpawn, A: 5}, {Op: api.OpJump, A: 64}, {Op: api.OpYield, C: -1}}
	number := 0
	for f, n := range lengths {
		for i := range n {
			number++
			for _, in := range wrong {
				p := exits(4, lengths...)
				p.Funcs[f][i] = in
				none(t, p, 1+number)
				p.Funcs[4][2] = wrong[0]
				none(t, p, 1+number)
			}
		}
	}
	if number != 75 {
		t.Fatal("not all were asked")
	}
}

// 15.1: jumps to the function's own bounds, not to another one's.
func TestTargets(t *testing.T) {
	lengths := []int{3, 1, 10, 64}
	for f, n := range lengths {
		for _, to := range []int{0, n - 1, n, n + 1, 3, 9, 63} {
			for _, in := range []api.Inst{{Op: api.OpJump, A: to}, {Op: api.OpJeq, A: 1, B: 2, C: to}, {Op: api.OpDec, A: to}} {
				p := exits(0, lengths...)
				p.Funcs[f][n-1] = in
				if to < n {
					decode(t, whole(t, p))
					continue
				}
				if code.May(p) == 0 {
					t.Errorf("15.1: of %d instructions: %v", n, in)
				}
				k := bytes.LastIndexByte(write(p), byte(to))
				bad(t, write(p), k)
			}
		}
	}
}

// 15.2: bytes that end at every index of a script are wrong there, and bytes behind its end at the first of them.
func TestEnds(t *testing.T) {
	r := rand.New(rand.NewSource(152))
	bad(t, nil, 0)
	bad(t, []byte{}, 0)
	for range 60 {
		b := write(some(r, 5))
		for n := range b {
			bad(t, b[:n], n)
		}
		for _, more := range [][]byte{{0}, {1}, {255}, {0, 0, 0, 0}, bytes.Repeat([]byte{1, 0, 0, 0, 0}, 300)} {
			bad(t, slices.Concat(b, more), len(b))
		}
	}
}

// 15.2: where several bytes are wrong, the first one is told: by hand.
func TestFirstByte(t *testing.T) {
	for _, x := range []struct {
		b  []byte
		at int
	}{
		{[]byte{0, 99, 0, 99}, 0}, {[]byte{17}, 0}, {[]byte{255}, 0}, {[]byte{1, 33, 0, 99}, 1}, {[]byte{16, 33}, 1},
		{[]byte{1, 0, 0, 99}, 2}, {[]byte{1, 0, 65}, 2}, {[]byte{1, 0, 1, 18, 99, 99, 99}, 3}, {[]byte{1, 0, 1, 0, 1, 1, 1}, 4}, {[]byte{1, 0, 1, 0, 0, 1, 1}, 5}, {[]byte{1, 0, 1, 0, 0, 0, 1, 5}, 6},
		{[]byte{1, 0, 1, 0, 0, 0, 0, 5}, 7}, {[]byte{2, 0, 1, 0, 0, 0, 0}, 7}, {[]byte{2, 0, 1, 0, 0, 0, 0, 0}, 7}, {[]byte{1, 0, 1, 6, 0, 0, 0}, 5}, {[]byte{1, 0, 1, 6, 16, 0, 0}, 4},
		{[]byte{1, 0, 1, 7, 0, 16, 0}, 4}, {[]byte{1, 1, 1, 7, 0, 16, 0}, 5}, {[]byte{1, 0, 1, 8, 1, 16, 9}, 4}, {[]byte{1, 0, 2, 8, 0, 16, 9}, 5},
		{[]byte{1, 0, 2, 0, 0, 0, 0, 1, 16}, 8}, {[]byte{1, 0, 2, 10, 1}, 4}, {[]byte{1, 0, 2, 1, 0, 255, 1}, 6},
	} {
		bad(t, x.b, x.at)
	}
}

// 15.2: scripts of which one byte or several were turned: what Decode answers, byte by byte.
func TestTurned(t *testing.T) {
	r := rand.New(rand.NewSource(1522))
	for range 150 {
		p := some(r, 6)
		b := whole(t, p)
		for k := range b {
			was := b[k]
			for _, n := range []byte{0, 1, was + 1, was - 1, 15, 16, 31, 32, 255, byte(r.Intn(256))} {
				b[k] = n
				got, err, _ := decode(t, b)
				if err == api.OK {
					whole(t, got)
				}
			}
			b[k] = was
		}
	}
	for range 20000 {
		b := make([]byte, r.Intn(40))
		for k := range b {
			b[k] = byte(r.Intn(1 + r.Intn(30)))
		}
		decode(t, b)
	}
}

// 15.2: programs of which one number or several were turned: what May answers.
func TestMayTurned(t *testing.T) {
	r := rand.New(rand.NewSource(1523))
	for range 3000 {
		p := some(r, 8)
		for range r.Intn(4) {
			f := p.Funcs[r.Intn(len(p.Funcs))]
			in := &f[r.Intn(len(f))]
			*[]*int{&in.Op, &in.A, &in.B, &in.C}[r.Intn(4)] = r.Intn(300) - 20
		}
		if n := firstWrong(p); n != 0 {
			none(t, p, 1+n)
		} else {
			whole(t, p)
		}
	}
}

// 15.3: Decode of Encode is the program, and Encode of Decode the bytes, over many programs.
func TestThereAndBack(t *testing.T) {
	r := rand.New(rand.NewSource(153))
	for range 1500 {
		p := some(r, 1+r.Intn(64))
		b := whole(t, p)
		got, err, _ := decode(t, b)
		if again, e := code.Encode(got); err != api.OK || e != api.OK || !bytes.Equal(again, b) {
			t.Fatalf("15.3: Encode of Decode of % x: % x, %d, %d", b, again, err, e)
		}
	}
}

// 15.2: what is handed in is not changed and not kept, and what is told is the caller's own.
func TestListsAreNew(t *testing.T) {
	r := rand.New(rand.NewSource(1524))
	p := some(r, 9)
	b := write(p)
	handed := slices.Clone(b)
	got, _, _ := code.Decode(handed)
	if !bytes.Equal(handed, b) {
		t.Error("15.2: Decode has changed its bytes")
	}
	clear(handed)
	if !same(got, p) {
		t.Error("15.2: the program has changed with the bytes")
	}
	one, _ := code.Encode(got)
	other, _ := code.Encode(got)
	clear(one)
	if !bytes.Equal(other, b) || !same(got, p) || code.May(got) != 0 {
		t.Error("15.2: Encode's bytes are shared")
	}
	again, _, _ := code.Decode(b)
	for i := range again.Funcs {
		again.Funcs[i] = append(again.Funcs[i], api.Inst{Op: 77})
		clear(again.Funcs[i])
	}
	if third, _, _ := code.Decode(b); !same(third, p) || !same(got, p) {
		t.Error("15.2: Decode's programs are shared")
	}
}
