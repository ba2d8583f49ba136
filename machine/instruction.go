package machine

import "treadmill/api"

// trouble is why an instruction can't be done. What does an instruction panics with it ahead of changing anything, and try recovers it.
type trouble int

const (
	fine     trouble = iota
	broken           // it can never be done: the goroutine is dead
	noNotes          // the P's barrier is full
	noSweep          // sweeping is behind
	noCredit         // its goroutine is to assist first
	noTurn           // others wait for room already
	noRoom           // there is none
)

// deed is an instruction that was done: what is told of it, and the state of its goroutine behind it.
type deed struct {
	api.Commit
	to int
}

// outcome is what an instruction comes to: its commit's Value, and the state of its goroutine behind it.
type outcome struct{ value, to int }

// on is the outcome by which a goroutine goes on.
func on(value int) outcome {
	return outcome{value: value, to: api.GRuns}
}

// instruction does what an instruction says for a goroutine that p runs, and that stands behind it already.
type instruction func(p, g int, in api.Inst) outcome

// instructions is all of them, by Op.
func (m *Machine) instructions() []instruction {
	return []instruction{
		api.OpExit:  m.exit,
		api.OpAlloc: m.alloc,
		api.OpLoad:  m.load,
		api.OpStore: m.store,
		api.OpMove:  m.move,
		api.OpNil:   m.drop,
		api.OpGet:   m.get,
		api.OpPut:   m.put,
		api.OpSpawn: m.spawn,
		api.OpYield: m.yield,
		api.OpSleep: m.sleep,
		api.OpBlock: m.block,
		api.OpWake:  m.wake,
		api.OpEq:    m.eq,
		api.OpJump:  m.jump,
		api.OpJeq:   m.jeq,
		api.OpSet:   m.set,
		api.OpDec:   m.dec,
	}
}

// next is a goroutine's next instruction: behind a function's last one it ends.
func (m *Machine) next(g int) api.Inst {
	r := m.gs[g]
	if f := m.funcs[r.f]; r.pc < len(f) {
		return f[r.pc]
	}
	return api.Inst{Op: api.OpExit}
}

// try does the next instruction of a goroutine that p runs; or it tells why that can't be done now, and the goroutine stands where it stood.
func (m *Machine) try(p, g int) (d deed, why trouble) {
	r, in := m.gs[g], m.next(g)
	at := r.pc
	d.Commit = api.Commit{G: g, F: r.f, PC: at, Op: in.Op}
	defer func() {
		switch x := recover(); x {
		case nil:
		case broken:
			d.Fault, d.to = true, api.GDead
		default:
			r.pc = at
			why = x.(trouble)
		}
	}()
	r.pc++ // ahead of the instruction, which may jump
	out := m.does[in.Op](p, g, in)
	d.Value, d.to = out.value, out.to
	return d, fine
}

// commit tells an instruction that was done, and brings its goroutine where it is to be.
func (m *Machine) commit(p int, d deed) api.Event {
	m.commits = append(m.commits, recorded(d.Commit))
	m.ps[p].turn++
	switch d.to {
	case api.GRuns:
	case api.GRunnable:
		m.putAway(p, p)
	default:
		m.leave(p, d.to)
	}
	m.status = m.stands()
	return api.Event{Kind: api.EvCommit, G: d.G}
}

// stands is how the run stands behind a commit.
func (m *Machine) stands() int {
	s := m.states
	switch {
	case s.Count(api.GDead) == s.Len():
		return api.Done
	case s.Count(api.GWaits) > m.timers.Len(): // some wait for others
		if s.Count(api.GRunnable)+s.Count(api.GRuns)+s.Count(api.GAssists)+m.timers.Len() == 0 {
			return api.Deadlock
		}
	}
	return api.Runs
}

func (m *Machine) exit(p, g int, in api.Inst) outcome {
	return outcome{to: api.GDead}
}

func (m *Machine) load(p, g int, in api.Inst) outcome {
	stack := &m.gs[g].stack
	v := m.slot(stack[in.B], in.C)
	stack[in.A] = v
	return on(v)
}

func (m *Machine) store(p, g int, in api.Inst) outcome {
	stack := &m.gs[g].stack
	addr, v := stack[in.A], stack[in.C]
	m.note(p, m.slot(addr, in.B), v)
	m.heap.Arena().Store(addr, in.B, v)
	return on(0)
}

func (m *Machine) move(p, g int, in api.Inst) outcome {
	stack := &m.gs[g].stack
	stack[in.A] = stack[in.B]
	return on(0)
}

func (m *Machine) drop(p, g int, in api.Inst) outcome {
	m.gs[g].stack[in.A] = 0
	return on(0)
}

func (m *Machine) get(p, g int, in api.Inst) outcome {
	m.gs[g].stack[in.A] = m.globals[in.B]
	return on(0)
}

func (m *Machine) put(p, g int, in api.Inst) outcome {
	v := m.gs[g].stack[in.B]
	m.note(p, m.globals[in.A], v)
	m.globals[in.A] = v
	return on(0)
}

func (m *Machine) spawn(p, g int, in api.Inst) outcome {
	if m.states.Len() == api.MaxGs {
		panic(broken)
	}
	v := m.gs[g].stack[in.B]
	m.note(p, 0, v) // the new stack is no root of a cycle that began
	other := m.begin(in.A, v)
	m.sched.Ready(p, other, false)
	return on(other)
}

func (m *Machine) yield(p, g int, in api.Inst) outcome {
	return outcome{to: api.GRunnable}
}

func (m *Machine) sleep(p, g int, in api.Inst) outcome {
	m.timers.Add(m.clock+int64(256*in.B+in.C+1), g)
	return outcome{to: api.GWaits}
}

func (m *Machine) block(p, g int, in api.Inst) outcome {
	m.waits.Wait(in.A, g)
	return outcome{to: api.GWaits}
}

func (m *Machine) wake(p, g int, in api.Inst) outcome {
	other, some := m.waits.Wake(in.A)
	if !some {
		return on(none)
	}
	m.ready(other)
	return on(other)
}

func (m *Machine) eq(p, g int, in api.Inst) outcome {
	if m.same(g, in) {
		return on(1)
	}
	return on(0)
}

func (m *Machine) jump(p, g int, in api.Inst) outcome {
	m.gs[g].pc = in.A
	return on(0)
}

func (m *Machine) jeq(p, g int, in api.Inst) outcome {
	if m.same(g, in) {
		m.gs[g].pc = in.C
	}
	return on(0)
}

func (m *Machine) set(p, g int, in api.Inst) outcome {
	m.gs[g].counter = 256*in.A + in.B
	return on(0)
}

func (m *Machine) dec(p, g int, in api.Inst) outcome {
	if r := m.gs[g]; r.counter > 0 {
		r.counter--
		r.pc = in.A
	}
	return on(0)
}

// slot is what stands in an object's slot; there must be one.
func (m *Machine) slot(addr, i int) int {
	v, err := m.heap.Arena().Load(addr, i)
	if err != api.OK {
		panic(broken)
	}
	return v
}

// note notes what is overwritten and what is written, while marking goes on.
func (m *Machine) note(p, old, new int) {
	if m.Phase() == api.Mark && !m.ps[p].notes.Put(old, new) {
		panic(noNotes)
	}
}

// same is whether stack A and stack B are the same.
func (m *Machine) same(g int, in api.Inst) bool {
	stack := &m.gs[g].stack
	return stack[in.A] == stack[in.B]
}
