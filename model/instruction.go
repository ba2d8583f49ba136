package model

import (
	"math"

	"treadmill/api"
)

// outcome is what an instruction comes to: its commit's Value, the state of its goroutine behind it, and whether it could not be done.
type outcome struct {
	value, to int
	fault     bool
}

// on is the outcome by which a goroutine goes on.
func on(value int) outcome {
	return outcome{value: value, to: api.GRunnable}
}

// fault is the outcome of what can't be done.
func fault() outcome {
	return outcome{to: api.GDead, fault: true}
}

// instruction does what an instruction says for a goroutine, which stands behind it already.
type instruction func(g int, in api.Inst) outcome

// instructions is all of them, by Op.
func (m *Model) instructions() []instruction {
	return []instruction{
		api.OpExit:  m.exit,
		api.OpAlloc: m.alloc,
		api.OpLoad:  m.load,
		api.OpStore: m.store,
		api.OpMove:  m.move,
		api.OpNil:   m.drop,
		api.OpGet:   m.get,
		api.OpPut:   m.put,
		api.OpSpawn: m.spawn,
		api.OpYield: m.yield,
		api.OpSleep: m.sleep,
		api.OpBlock: m.block,
		api.OpWake:  m.wake,
		api.OpEq:    m.eq,
		api.OpJump:  m.jump,
		api.OpJeq:   m.jeq,
		api.OpSet:   m.set,
		api.OpDec:   m.dec,
	}
}

func (m *Model) exit(g int, in api.Inst) outcome {
	return outcome{to: api.GDead}
}

func (m *Model) alloc(g int, in api.Inst) outcome {
	m.objects = append(m.objects, make([]int, in.B+1))
	id := len(m.objects)
	m.gs[g].stack[in.A] = id
	return on(id)
}

func (m *Model) load(g int, in api.Inst) outcome {
	slot := m.slot(m.gs[g].stack[in.B], in.C)
	if slot == nil {
		return fault()
	}
	m.gs[g].stack[in.A] = *slot
	return on(*slot)
}

func (m *Model) store(g int, in api.Inst) outcome {
	slot := m.slot(m.gs[g].stack[in.A], in.B)
	if slot == nil {
		return fault()
	}
	*slot = m.gs[g].stack[in.C]
	return on(0)
}

func (m *Model) move(g int, in api.Inst) outcome {
	stack := &m.gs[g].stack
	stack[in.A] = stack[in.B]
	return on(0)
}

func (m *Model) drop(g int, in api.Inst) outcome {
	m.gs[g].stack[in.A] = 0
	return on(0)
}

func (m *Model) get(g int, in api.Inst) outcome {
	m.gs[g].stack[in.A] = m.globals[in.B]
	return on(0)
}

func (m *Model) put(g int, in api.Inst) outcome {
	m.globals[in.A] = m.gs[g].stack[in.B]
	return on(0)
}

func (m *Model) spawn(g int, in api.Inst) outcome {
	other, some := m.begin(in.A, m.gs[g].stack[in.B])
	if !some {
		return fault()
	}
	return on(other)
}

func (m *Model) yield(g int, in api.Inst) outcome {
	return on(0)
}

func (m *Model) sleep(g int, in api.Inst) outcome {
	m.timers.Add(later(m.clock, 256*in.B+in.C+1), g)
	return outcome{to: api.GWaits}
}

func (m *Model) block(g int, in api.Inst) outcome {
	m.waits.Wait(in.A, g)
	return outcome{to: api.GWaits}
}

func (m *Model) wake(g int, in api.Inst) outcome {
	other, some := m.waits.Wake(in.A)
	if !some {
		return on(-1)
	}
	m.states.Move(other, api.GRunnable)
	return on(other)
}

func (m *Model) eq(g int, in api.Inst) outcome {
	if m.same(g, in) {
		return on(1)
	}
	return on(0)
}

func (m *Model) jump(g int, in api.Inst) outcome {
	m.gs[g].pc = in.A
	return on(0)
}

func (m *Model) jeq(g int, in api.Inst) outcome {
	if m.same(g, in) {
		m.gs[g].pc = in.C
	}
	return on(0)
}

func (m *Model) set(g int, in api.Inst) outcome {
	m.gs[g].counter = 256*in.A + in.B
	return on(0)
}

func (m *Model) dec(g int, in api.Inst) outcome {
	if r := m.gs[g]; r.counter > 0 {
		r.counter--
		r.pc = in.A
	}
	return on(0)
}

// begin begins a goroutine in a function: its number, and whether there was room for it.
func (m *Model) begin(f, first int) (int, bool) {
	g, err := m.states.Spawn()
	if err != api.OK {
		return 0, false
	}
	r := &goroutine{f: f}
	r.stack[0] = first
	m.gs = append(m.gs, r)
	return g, true
}

// slot is where an object's slot stands; nil, if there is no such object, or it has no such slot.
func (m *Model) slot(id, i int) *int {
	if id == 0 || i >= len(m.objects[id-1]) {
		return nil
	}
	return &m.objects[id-1][i]
}

// same is whether stack A and stack B are the same.
func (m *Model) same(g int, in api.Inst) bool {
	stack := &m.gs[g].stack
	return stack[in.A] == stack[in.B]
}

// later is n ticks behind a time; the end of int64, if that is farther than there.
func later(when int64, n int) int64 {
	if int64(n) > math.MaxInt64-when {
		return math.MaxInt64
	}
	return when + int64(n)
}
