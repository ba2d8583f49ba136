package machine

import "treadmill/api"

// record is a commit as it is kept: there are many of them, and all of their numbers are small.
type record struct {
	value     int32
	g         int16
	f, pc, op uint8
	fault     bool
}

// recorded is how a commit is kept.
func recorded(c api.Commit) record {
	return record{
		value: int32(c.Value),
		g:     int16(c.G),
		f:     uint8(c.F),
		pc:    uint8(c.PC),
		op:    uint8(c.Op),
		fault: c.Fault,
	}
}

// told is the commit that was kept.
func (r record) told() api.Commit {
	return api.Commit{
		G:     int(r.g),
		F:     int(r.f),
		PC:    int(r.pc),
		Op:    int(r.op),
		Value: int(r.value),
		Fault: r.fault,
	}
}
