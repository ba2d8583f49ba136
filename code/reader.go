package code

import "treadmill/api"

// reader goes through a script's bytes. It panics at the first one that is wrong, so that what reads need not ask: at is its index then.
type reader struct {
	bytes []byte
	at    int // the byte that is next
}

// number is the next byte, which must be from one number to another.
func (r *reader) number(least, most int) int {
	if r.at == len(r.bytes) {
		panic("the script ends too early")
	}
	n := int(r.bytes[r.at])
	if n < least || n > most {
		panic("a number that may not stand there")
	}
	r.at++
	return n
}

// below is the next byte, which must be less than n.
func (r *reader) below(n int) int {
	return r.number(0, n-1)
}

// end is the script's end.
func (r *reader) end() {
	if r.at < len(r.bytes) {
		panic("the script goes on behind its end")
	}
}

// program reads all of a script.
func (r *reader) program() api.Program {
	funcs := r.number(1, api.MaxFuncs)
	p := api.Program{Globals: r.number(0, api.MaxGlobals)}
	for range funcs {
		p.Funcs = append(p.Funcs, r.function(p.Globals, funcs))
	}
	r.end()
	return p
}

// function reads a function's instructions.
func (r *reader) function(globals, funcs int) []api.Inst {
	f := make([]api.Inst, r.number(1, api.MaxCode))
	b := within(globals, funcs, len(f))
	for i := range f {
		f[i] = r.inst(b)
	}
	return f
}

// inst reads an instruction.
func (r *reader) inst(b bounds) api.Inst {
	op := r.below(len(takes))
	k := takes[op]
	// The bytes are read in this order: a literal's fields are worked out one behind the other.
	return api.Inst{Op: op, A: r.below(b[k[0]]), B: r.below(b[k[1]]), C: r.below(b[k[2]])}
}
