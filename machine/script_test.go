package machine_test

import (
	"math/rand"

	"treadmill/api"
)

// Instructions by their names.
func alloc(a, slots int) api.Inst   { return api.Inst{Op: api.OpAlloc, A: a, B: slots - 1} }
func load(a, b, slot int) api.Inst  { return api.Inst{Op: api.OpLoad, A: a, B: b, C: slot} }
func store(a, slot, c int) api.Inst { return api.Inst{Op: api.OpStore, A: a, B: slot, C: c} }
func move(a, b int) api.Inst        { return api.Inst{Op: api.OpMove, A: a, B: b} }
func null(a int) api.Inst           { return api.Inst{Op: api.OpNil, A: a} }
func get(a, global int) api.Inst    { return api.Inst{Op: api.OpGet, A: a, B: global} }
func put(global, b int) api.Inst    { return api.Inst{Op: api.OpPut, A: global, B: b} }
func spawn(f, b int) api.Inst       { return api.Inst{Op: api.OpSpawn, A: f, B: b} }
func yield() api.Inst               { return api.Inst{Op: api.OpYield} }
func sleep(ticks int) api.Inst {
	return api.Inst{Op: api.OpSleep, B: (ticks - 1) / 256, C: (ticks - 1) % 256}
}
func block(at int) api.Inst       { return api.Inst{Op: api.OpBlock, A: at} }
func wake(at int) api.Inst        { return api.Inst{Op: api.OpWake, A: at} }
func eq(a, b int) api.Inst        { return api.Inst{Op: api.OpEq, A: a, B: b} }
func jump(to int) api.Inst        { return api.Inst{Op: api.OpJump, A: to} }
func jeq(a, b, to int) api.Inst   { return api.Inst{Op: api.OpJeq, A: a, B: b, C: to} }
func set(n int) api.Inst          { return api.Inst{Op: api.OpSet, A: n / 256, B: n % 256} }
func dec(to int) api.Inst         { return api.Inst{Op: api.OpDec, A: to} }
func exit() api.Inst              { return api.Inst{} }
func f(in ...api.Inst) []api.Inst { return in }

// program is functions with some globals.
func program(globals int, funcs ...[]api.Inst) api.Program {
	return api.Program{Globals: globals, Funcs: funcs}
}

// data is a part of a function that stands at a place of it, and turns globals' objects; r chooses its numbers. Stack 15 stays 0.
func data(r *rand.Rand, at, globals int) []api.Inst {
	a, b, c := r.Intn(15), r.Intn(15), r.Intn(15)
	n := 1 + r.Intn(4)
	switch r.Intn(12) {
	case 0:
		n = 1 + r.Intn(256)
	case 1:
		n = 1 + r.Intn(40)
	}
	g := r.Intn(globals)
	switch r.Intn(9) {
	case 0: // an object
		return f(alloc(a, n), put(g, a))
	case 1, 2: // a list that grows by one, or begins anew
		return f(get(b, g), alloc(a, n), store(a, 0, b), put(g, a), null(b))
	case 3: // a list that loses its first one
		return f(get(a, g), jeq(a, 15, at+4), load(a, a, 0), put(g, a), null(a))
	case 4: // garbage
		return f(set(r.Intn(20)), alloc(a, n), dec(at+1))
	case 5: // a ring
		return f(alloc(a, 2), alloc(b, 2), store(a, 0, b), store(b, 0, a), put(g, a))
	case 6: // a slot that is overwritten
		return f(get(a, g), jeq(a, 15, at+4), load(b, a, 0), store(a, 0, c))
	case 7:
		return f(null(a), null(b), null(c), put(g, 15))
	}
	return f(move(a, b), eq(a, c), jeq(a, b, at+4), move(b, c))
}

// talk is a part of a function that begins goroutines, or lets others go on.
func talk(r *rand.Rand, at, funcs int) []api.Inst {
	switch r.Intn(9) {
	case 0:
		return f(spawn(r.Intn(funcs), r.Intn(16)))
	case 1:
		return f(sleep(1 + r.Intn(300)))
	case 2, 3:
		return f(wake(r.Intn(3)), wake(r.Intn(3)))
	case 4:
		return f(wake(0), wake(1), wake(2), block(r.Intn(3)))
	case 5, 6:
		return f(yield())
	case 7:
		return f(set(r.Intn(100)), dec(at+1))
	}
	return f(wake(0), wake(1))
}

// wild is a program of such parts: function 0 begins some goroutines, most functions go on for ever.
func wild(r *rand.Rand) api.Program {
	p := api.Program{Globals: 1 + r.Intn(20)}
	funcs := 1 + r.Intn(4)
	for i := range funcs {
		var all []api.Inst
		if i == 0 {
			for range r.Intn(6) {
				all = append(all, spawn(r.Intn(funcs), 0))
			}
		}
		first := len(all)
		for long := first + 5 + r.Intn(40); len(all) < long; {
			if r.Intn(4) > 0 {
				all = append(all, data(r, len(all), p.Globals)...)
			} else {
				all = append(all, talk(r, len(all), funcs)...)
			}
		}
		if r.Intn(8) > 0 {
			all = append(all, jump(first))
		}
		p.Funcs = append(p.Funcs, all)
	}
	for _, l := range p.Funcs { // a part at the end may jump behind it
		for i := range l {
			if l[i].Op == api.OpJeq {
				l[i].C = min(l[i].C, len(l)-1)
			}
		}
	}
	return p
}
