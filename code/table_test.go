package code_test

import (
	"math/rand"

	"treadmill/api"
)

// count is how many numbers may stand in a field (A, B, C: 0, 1, 2) of an instruction, from 0 on: 15.1's table, field by field. Of what is not named it is 1; of no Op 0.
func count(op, field, globals, funcs, length int) int {
	type at [2]int
	switch (at{op, field}) {
	case at{1, 0}, at{2, 0}, at{2, 1}, at{3, 0}, at{3, 2}, at{4, 0}, at{4, 1}, at{5, 0}, at{6, 0}, at{7, 1}, at{8, 1}, at{13, 0}, at{13, 1}, at{15, 0}, at{15, 1}:
		return 16
	case at{1, 1}, at{2, 2}, at{3, 1}, at{10, 1}, at{10, 2}, at{16, 0}, at{16, 1}:
		return 256
	case at{6, 1}, at{7, 0}:
		return globals
	case at{8, 0}:
		return funcs
	case at{11, 0}, at{12, 0}:
		return 32
	case at{14, 0}, at{15, 2}, at{17, 0}:
		return length
	}
	if op < 0 || op > 17 {
		return 0
	}
	return 1
}

// mayStand is whether an instruction may stand in a function of so many, by the table.
func mayStand(in api.Inst, globals, funcs, length int) bool {
	for field, n := range []int{in.A, in.B, in.C} {
		if n < 0 || n >= count(in.Op, field, globals, funcs, length) {
			return false
		}
	}
	return in.Op >= 0 && in.Op <= 17
}

// firstWrong is the first instruction of a program that may not stand there, counted from 1 on; 0, if all may.
func firstWrong(p api.Program) int {
	n := 0
	for _, f := range p.Funcs {
		for _, in := range f {
			n++
			if !mayStand(in, p.Globals, len(p.Funcs), len(f)) {
				return n
			}
		}
	}
	return 0
}

// read is what 15.2 says of a script's bytes, one by one: each byte's bounds are asked by what stood ahead of it.
func read(b []byte) (api.Program, int, int) {
	var p api.Program
	at := 0
	next := func(least, count int) (int, bool) {
		if at >= len(b) || int(b[at]) < least || int(b[at]) >= count {
			return 0, false
		}
		at++
		return int(b[at-1]), true
	}
	funcs, ok := next(1, 17)
	if !ok {
		return api.Program{}, api.ErrBad, at
	}
	if p.Globals, ok = next(0, 33); !ok {
		return api.Program{}, api.ErrBad, at
	}
	for range funcs {
		length, ok := next(1, 65)
		if !ok {
			return api.Program{}, api.ErrBad, at
		}
		f := make([]api.Inst, length)
		for i := range f {
			if f[i].Op, ok = next(0, 18); !ok {
				return api.Program{}, api.ErrBad, at
			}
			for field, n := range []*int{&f[i].A, &f[i].B, &f[i].C} {
				if *n, ok = next(0, count(f[i].Op, field, p.Globals, funcs, length)); !ok {
					return api.Program{}, api.ErrBad, at
				}
			}
		}
		p.Funcs = append(p.Funcs, f)
	}
	if at < len(b) {
		return api.Program{}, api.ErrBad, at
	}
	return p, api.OK, 0
}

// write is a program's bytes.
func write(p api.Program) []byte {
	b := []byte{byte(len(p.Funcs)), byte(p.Globals)}
	for _, f := range p.Funcs {
		b = append(b, byte(len(f)))
		for _, in := range f {
			b = append(b, byte(in.Op), byte(in.A), byte(in.B), byte(in.C))
		}
	}
	return b
}

// some is a program of many kinds that may be.
func some(r *rand.Rand, most int) api.Program {
	p := api.Program{Globals: r.Intn(33)}
	funcs := 1 + r.Intn(16)
	for range funcs {
		f := make([]api.Inst, 1+r.Intn(most))
		for i := range f {
			op := r.Intn(18)
			for p.Globals == 0 && (op == api.OpGet || op == api.OpPut) {
				op = r.Intn(18)
			}
			n := func(field int) int { return r.Intn(count(op, field, p.Globals, funcs, len(f))) }
			f[i] = api.Inst{Op: op, A: n(0), B: n(1), C: n(2)}
		}
		p.Funcs = append(p.Funcs, f)
	}
	return p
}

// exits is a program whose functions have so many instructions, all of them exits.
func exits(globals int, lengths ...int) api.Program {
	p := api.Program{Globals: globals}
	for _, n := range lengths {
		p.Funcs = append(p.Funcs, make([]api.Inst, n))
	}
	return p
}

// same is whether two programs are.
func same(a, b api.Program) bool {
	if a.Globals != b.Globals || len(a.Funcs) != len(b.Funcs) {
		return false
	}
	for i, f := range a.Funcs {
		if len(f) != len(b.Funcs[i]) {
			return false
		}
		for j, in := range f {
			if in != b.Funcs[i][j] {
				return false
			}
		}
	}
	return true
}
