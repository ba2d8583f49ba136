package code

import "treadmill/api"

// kind is what a number of an instruction names.
type kind int

const (
	nothing  kind = iota // it must be 0
	free                 // any byte
	place                // of a stack
	global               // of the program's
	function             // of the program's
	target               // an instruction of the same function
	spot                 // where goroutines wait
	kinds                // how many there are
)

// takes is what A, B and C of each instruction name, by Op.
var takes = [...][3]kind{
	api.OpExit:  {nothing, nothing, nothing},
	api.OpAlloc: {place, free, nothing},
	api.OpLoad:  {place, place, free},
	api.OpStore: {place, free, place},
	api.OpMove:  {place, place, nothing},
	api.OpNil:   {place, nothing, nothing},
	api.OpGet:   {place, global, nothing},
	api.OpPut:   {global, place, nothing},
	api.OpSpawn: {function, place, nothing},
	api.OpYield: {nothing, nothing, nothing},
	api.OpSleep: {nothing, free, free},
	api.OpBlock: {spot, nothing, nothing},
	api.OpWake:  {spot, nothing, nothing},
	api.OpEq:    {place, place, nothing},
	api.OpJump:  {target, nothing, nothing},
	api.OpJeq:   {place, place, target},
	api.OpSet:   {free, free, nothing},
	api.OpDec:   {target, nothing, nothing},
}

// bounds is how many numbers there are of each kind, from 0 on.
type bounds [kinds]int

// within is the bounds of a function of so many instructions.
func within(globals, funcs, length int) bounds {
	return bounds{
		nothing:  1,
		free:     256,
		place:    api.Stack,
		global:   globals,
		function: funcs,
		target:   length,
		spot:     api.MaxWaits,
	}
}

// may is whether an instruction may stand there.
func (b bounds) may(in api.Inst) bool {
	if in.Op < 0 || in.Op >= len(takes) {
		return false
	}
	k := takes[in.Op]
	return b.has(k[0], in.A) && b.has(k[1], in.B) && b.has(k[2], in.C)
}

// has is whether there is such a number of that kind.
func (b bounds) has(k kind, n int) bool {
	return n >= 0 && n < b[k]
}
