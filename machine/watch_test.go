package machine_test

import (
	"slices"
	"testing"

	"treadmill/api"
	"treadmill/class"
	"treadmill/code"
	"treadmill/conf"
	"treadmill/fix"
	"treadmill/machine"
	"treadmill/model"
	"treadmill/pacer"
)

// watch runs a machine beside the model (16), and holds each step against what chapter 28 and T1 to T6 say.
type watch struct {
	t     testing.TB
	c     api.Config
	on    bool
	m     *machine.Machine
	model *model.Model

	view  api.View     // behind the last step
	reach map[int]bool // addresses that can be reached there
	names map[int]int  // by address: the identity of the object that is there, or was last
	addrs []int        // by identity

	allocated map[int]int64 // by goroutine: words since Mark began
	scanned   map[int]int64
	doomed    map[int]bool // addresses that could not be reached as Mark began, and are not freed yet
	since     []int        // by goroutine: Cycle as it last went on
	ended     []bool       // by goroutine: a cycle began and ended since then
	stop      []int        // by P: its steps in Term
	due       []int        // by P: its steps in Off since Live is at Trigger
	row       []int        // by P: its commits in a row, while another one is in its queue
	runs      []int        // by P: of whom
	dry       []int        // by P: its steps in a row that were no commits, while one was due
}

// watched is a machine of a program.
func watched(t testing.TB, c api.Config, p api.Program) *watch {
	t.Helper()
	script, err := code.Encode(p)
	if err != api.OK {
		t.Fatalf("a program that may not be: %+v", p)
	}
	m, err, at := machine.New(c, script)
	if err != api.OK || at != 0 || m == nil {
		t.Fatalf("New: %d %d", err, at)
	}
	w := &watch{t: t, c: c, m: m, names: map[int]int{}, addrs: []int{0}}
	w.model, _ = model.New(p)
	_, w.on = conf.Percent(c.Percent)
	w.stop, w.due, w.dry, w.row = make([]int, c.Ps), make([]int, c.Ps), make([]int, c.Ps), make([]int, c.Ps)
	w.runs = slices.Repeat([]int{-1}, c.Ps)
	w.view = m.View()
	w.reach = reached(w.view)
	w.since, w.ended = []int{0}, []bool{false}
	w.begins()
	return w
}

// begins holds a machine's beginning.
func (w *watch) begins() {
	g := api.Goroutine{State: api.GRunnable, P: w.view.Gs[0].P, Stack: make([]int, 16)}
	want := api.View{Globals: make([]int, len(w.model.Globals())), Gs: []api.Goroutine{g}}
	if !same(w.view, want) {
		w.t.Fatalf("28.1: the beginning: %+v", w.view)
	}
	percent, on := conf.Percent(w.c.Percent)
	if w.m.Status() != api.Runs || w.m.Goal() != pacer.Goal(0, w.c.Words, percent, on) || w.m.Live() != 0 || w.m.Steps() != 0 || w.m.Commits() != 0 || len(w.m.Freed()) != 0 {
		w.t.Fatal("28.1: all is 0")
	}
	w.room()
}

// step is a step, and all that holds of it.
func (w *watch) step(ch api.Choice) api.Event {
	w.t.Helper()
	if w.m.Status() != api.Runs || ch.P < 0 || ch.P >= w.c.Ps {
		return w.nothing(ch)
	}
	was, commits, steps := w.view, w.m.Commits(), w.m.Steps()
	enabled, goal, live := w.m.Enabled(ch.P), w.m.Goal(), w.m.Live()
	waits := w.waits()
	due := w.commitIsDue(ch, live, waits)
	ran := running(was, ch.P)
	e := w.m.Step(ch)
	w.model.Tick(min(max(ch.Tick, 0), 1<<20))
	w.view = w.m.View()
	if w.m.Steps() != steps+1 {
		w.t.Fatalf("28.2: Steps: %d, then %d", steps, w.m.Steps())
	}
	plain := !(ch.Preempt && ran >= 0) && ch.Tick <= 0 && (ch.Victim < 0 || ch.Victim >= w.c.Ps || ch.Victim == ch.P)
	if e.Kind == api.EvNone && enabled || plain && e.Kind != api.EvNone && !enabled {
		w.t.Fatalf("28.8: Enabled(%d): %v, but %+v of %+v", ch.P, enabled, e, ch)
	}
	if ch.Preempt && ran >= 0 && (e != api.Event{Kind: api.EvSched, G: ran} || w.view.Gs[ran].State != api.GRunnable) {
		w.t.Fatalf("28.2: Preempt: %+v", e)
	}
	w.event(e, was, commits, ch.P)
	w.as(was)
	w.reach = reached(w.view)
	w.heap()
	w.memory(e, was)
	w.phases(e, was, goal, live, waits)
	w.marking(was)
	w.credit()
	w.queues(ch, e, was)
	w.ends(e, was)
	w.rows(ch, e, due)
	return e
}

// nothing holds a step that is none.
func (w *watch) nothing(ch api.Choice) api.Event {
	freed, steps, status := w.m.Freed(), w.m.Steps(), w.m.Status()
	e := w.m.Step(ch)
	if e.Kind != api.EvNone || w.m.Steps() != steps || w.m.Status() != status || !slices.Equal(w.m.Freed(), freed) || !same(w.m.View(), w.view) {
		w.t.Fatalf("28.2: nothing: %+v of %+v", e, ch)
	}
	if w.m.Enabled(ch.P) {
		w.t.Fatalf("28.8: Enabled(%d)", ch.P)
	}
	return e
}

// event holds what an event tells.
func (w *watch) event(e api.Event, was api.View, commits, p int) {
	w.t.Helper()
	now := w.view
	if e.Kind != api.EvCommit && w.m.Commits() != commits {
		w.t.Fatalf("28.2: a commit in %+v", e)
	}
	if turned := was.Phase != now.Phase; turned != (e.Kind == api.EvPhase) || turned && e.Phase != now.Phase || !turned && e.Phase != 0 {
		w.t.Fatalf("28.5: from phase %d to %d: %+v", was.Phase, now.Phase, e)
	}
	if ended := w.m.Status() == api.OutOf; ended != (e.Kind == api.EvEnd) {
		w.t.Fatalf("28.2: Status %d: %+v", w.m.Status(), e)
	}
	switch e.Kind {
	case api.EvNone, api.EvPhase:
		if e.G != -1 {
			w.t.Fatalf("28.2: of nobody: %+v", e)
		}
	case api.EvCommit:
		w.commit(e, was, commits)
	case api.EvSched:
		takes := was.Gs[e.G].State != api.GRuns && running(now, p) == e.G
		puts := running(was, p) == e.G && now.Gs[e.G].State != api.GRuns
		if !takes && !puts {
			w.t.Fatalf("28.2: it takes, or puts away: %+v", e)
		}
	case api.EvWork:
		if was.Phase != api.Mark && was.Phase != api.Sweep {
			w.t.Fatalf("28.2: work in phase %d", was.Phase)
		}
		if e.G != -1 && was.Gs[e.G].State != api.GAssists {
			w.t.Fatalf("28.2: work for one that does not assist: %+v", e)
		}
	}
}

// commit holds a commit against the model's.
func (w *watch) commit(e api.Event, was api.View, commits int) {
	w.t.Helper()
	c, ok := w.m.Commit(commits)
	if _, more := w.m.Commit(commits + 1); !ok || more || w.m.Commits() != commits+1 || c.G != e.G {
		w.t.Fatalf("28.3: commit %d: %+v of %+v", commits, c, e)
	}
	if was.Phase == api.Term {
		w.t.Fatal("28.5: a commit in Term")
	}
	if w.model.State(c.G) != api.GRunnable {
		w.t.Fatalf("T1: %d is not runnable there: %+v", c.G, c)
	}
	in, _ := w.model.Next(c.G)
	want, _ := w.model.Do(c.G)
	switch {
	case c.Op == api.OpAlloc && want.Op == api.OpAlloc:
		if old := w.names[c.Value]; old != 0 && w.reach[c.Value] {
			w.t.Fatalf("T1: address %d comes again, but stands for %d", c.Value, old)
		}
		w.names[c.Value] = want.Value
		w.addrs = append(w.addrs, c.Value)
		w.allocates(c.G, c.Value, in.B+1)
		want.Value = c.Value
	case c.Op == api.OpLoad:
		want.Value = w.addrs[want.Value]
	}
	if c != want {
		w.t.Fatalf("T1: commit %d: %+v, of the model %+v", commits, c, want)
	}
	for len(w.since) < w.model.Gs() {
		w.since, w.ended = append(w.since, was.Cycle), append(w.ended, false)
	}
	w.since[c.G], w.ended[c.G] = was.Cycle, false
}

// allocates holds a new object.
func (w *watch) allocates(g, addr, n int) {
	o, ok := objectAt(w.view, addr)
	if !ok || len(o.Slots) != n || slices.ContainsFunc(o.Slots, func(v int) bool { return v != 0 }) {
		w.t.Fatalf("28.4: a new object of %d slots: %+v", n, o)
	}
	if o.Marked != (w.view.Phase == api.Mark) {
		w.t.Fatalf("28.5: Marked %v in phase %d", o.Marked, w.view.Phase)
	}
	if w.view.Phase == api.Mark {
		w.allocated[g] += int64(class.Size(class.Of(n)))
	}
}

// as holds what is seen of goroutines and globals against the model's.
func (w *watch) as(was api.View) {
	w.t.Helper()
	v := w.view
	if v.Clock != w.model.Clock() || len(v.Gs) != w.model.Gs() || v.Phase != w.m.Phase() || v.Cycle != w.m.Cycle() {
		w.t.Fatalf("28.4: %d %d %d %d", v.Clock, len(v.Gs), v.Phase, v.Cycle)
	}
	if !w.alike(v.Globals, w.model.Globals()) {
		w.t.Fatalf("28.4: Globals: %v", v.Globals)
	}
	for g, x := range v.Gs {
		state := x.State
		if state == api.GRuns || state == api.GAssists {
			state = api.GRunnable
		}
		if state != w.model.State(g) {
			w.t.Fatalf("28.4: goroutine %d: State %d, of the model %d", g, x.State, w.model.State(g))
		}
		if g < len(was.Gs) && was.Gs[g].State == api.GDead { // the addresses there may be others' by now
			if !slices.Equal(x.Stack, was.Gs[g].Stack) {
				w.t.Fatalf("28.4: the stack of the dead %d", g)
			}
		} else if !w.alike(x.Stack, w.model.Stack(g)) {
			w.t.Fatalf("28.4: the stack of %d: %v, of the model %v", g, x.Stack, w.model.Stack(g))
		}
	}
}

// alike is whether addresses stand for identities.
func (w *watch) alike(addrs, ids []int) bool {
	return slices.EqualFunc(addrs, ids, func(addr, id int) bool { return addr == w.addrs[id] })
}

// heap holds the objects: how they lie, and that what can be reached holds what the model's does.
func (w *watch) heap() {
	w.t.Helper()
	live, end := 0, 64
	for _, o := range w.view.Objects {
		size := class.Size(class.Of(len(o.Slots)))
		if o.Addr < end || size == 0 || o.Addr+size > w.c.Words {
			w.t.Fatalf("28.4: an object at %d of %d slots", o.Addr, len(o.Slots))
		}
		end = o.Addr + size
		live += size
		if ids := w.model.Slots(w.names[o.Addr]); len(ids) != len(o.Slots) {
			w.t.Fatalf("28.6: the object at %d has %d slots, of the model %d", o.Addr, len(o.Slots), len(ids))
		}
	}
	if live != w.m.Live() {
		w.t.Fatalf("28.4: Live: %d, but %d", w.m.Live(), live)
	}
	for addr := range w.reach {
		o, ok := objectAt(w.view, addr)
		if !ok {
			w.t.Fatalf("T3: %d can be reached, and is not there", addr)
		}
		if !w.alike(o.Slots, w.model.Slots(w.names[addr])) {
			w.t.Fatalf("28.6: what the object at %d holds: %v", addr, o.Slots)
		}
	}
}

// memory holds what is freed and marked.
func (w *watch) memory(e api.Event, was api.View) {
	w.t.Helper()
	freed := w.m.Freed()
	words := 0
	for i, addr := range freed {
		o, ok := objectAt(was, addr)
		if !ok || i > 0 && freed[i-1] >= addr {
			w.t.Fatalf("28.4: Freed: %v", freed)
		}
		if _, is := objectAt(w.view, addr); is && !(e.Kind == api.EvCommit && w.addrs[len(w.addrs)-1] == addr) {
			w.t.Fatalf("28.4: %d is freed, and there", addr)
		}
		words += class.Size(class.Of(len(o.Slots)))
		delete(w.doomed, addr)
	}
	if words > 4096 {
		w.t.Fatalf("28.2: %d words freed", words)
	}
	if len(freed) > 0 && (was.Phase != api.Sweep || w.view.Phase != api.Sweep) {
		w.t.Fatalf("28.6: freed in phase %d", was.Phase)
	}
	gone := 0
	for _, o := range was.Objects {
		x, is := objectAt(w.view, o.Addr)
		if again := slices.Contains(freed, o.Addr); !is || again {
			gone++
		} else if was.Phase == api.Mark && o.Marked && !x.Marked {
			w.t.Fatalf("28.5: %d is marked no more", o.Addr)
		}
	}
	if gone != len(freed) {
		w.t.Fatalf("28.4: Freed: %v, but %d are gone", freed, gone)
	}
}

// phases holds how phases follow one another, and when.
func (w *watch) phases(e api.Event, was api.View, goal api.Goal, live int, waits bool) {
	w.t.Helper()
	if e.Kind != api.EvPhase {
		if w.view.Cycle != was.Cycle || w.m.Goal() != goal {
			w.t.Fatalf("28.7: Cycle, Goal in %+v", e)
		}
		return
	}
	if e.Phase != (was.Phase+1)%4 {
		w.t.Fatalf("28.5: phase %d behind %d", e.Phase, was.Phase)
	}
	switch e.Phase {
	case api.Mark:
		goal = w.m.Goal()
		if w.view.Cycle != was.Cycle+1 {
			w.t.Fatalf("28.4: Cycle: %d behind %d", w.view.Cycle, was.Cycle)
		}
		if !waits && (!w.on || int64(live) < goal.Trigger) {
			w.t.Fatalf("28.7: a cycle begins at %d words: %+v", live, goal)
		}
		w.allocated, w.scanned, w.doomed = map[int]int64{}, map[int]int64{}, map[int]bool{}
		for _, o := range was.Objects {
			if !w.reach[o.Addr] {
				w.doomed[o.Addr] = true
			}
		}
	case api.Off:
		if len(w.doomed) > 0 {
			w.t.Fatalf("T3: not gone: %v", w.doomed)
		}
		percent, on := conf.Percent(w.c.Percent)
		if w.m.Goal() != pacer.Goal(w.m.Live(), w.c.Words, percent, on) {
			w.t.Fatalf("28.7: Goal: %+v of %d", w.m.Goal(), w.m.Live())
		}
		for g := range w.ended {
			w.ended[g] = w.ended[g] || w.view.Cycle > w.since[g]
		}
	}
}

// marking holds what is marked, and what is left to be done.
func (w *watch) marking(was api.View) {
	w.t.Helper()
	v := w.view
	if v.Grey < 0 || v.Notes < 0 || v.Roots < 0 || v.Phase != api.Mark && (v.Grey != 0 || v.Notes != 0 || v.Roots != 0) {
		w.t.Fatalf("28.4: phase %d: %d %d %d", v.Phase, v.Grey, v.Notes, v.Roots)
	}
	for _, o := range v.Objects {
		if v.Phase == api.Off && o.Marked {
			w.t.Fatalf("28.5: %d is marked in Off", o.Addr)
		}
		if v.Phase == api.Term && w.reach[o.Addr] && !o.Marked {
			w.t.Fatalf("T2: %d is not marked in Term", o.Addr)
		}
	}
	if (v.Phase == api.Off || v.Phase == api.Mark) && (w.m.Steps()%16 == 0 || v.Phase != was.Phase) {
		w.room()
	}
}

// room holds Room against what the objects leave: there is no span without objects where nothing was swept since such were dropped.
func (w *watch) room() {
	w.t.Helper()
	taken := make([]bool, w.c.Words/64+1)
	taken[0], taken[len(taken)-1] = true, true
	free := make([]int, class.Count())
	spans := map[int]bool{}
	for _, o := range w.view.Objects {
		k := class.Of(len(o.Slots))
		free[k]--
		first := w.first(o.Addr, k)
		if !spans[first] {
			spans[first] = true
			free[k] += class.Slots(k)
			for i := range class.Pages(k) {
				taken[first+i] = true
			}
		}
	}
	for k := range free {
		run := 0
		for _, is := range taken {
			if run++; is {
				free[k] += (run - 1) / class.Pages(k) * class.Slots(k)
				run = 0
			}
		}
		if n := class.Size(k); w.m.Room(n) != free[k] {
			w.t.Fatalf("28.8: Room(%d): %d, but %d", n, w.m.Room(n), free[k])
		}
	}
}

// first is the first page of the span of class k in which the object at addr lies: of those that could be the one by which all lie alike.
func (w *watch) first(addr, k int) int {
	size := class.Size(k)
	for page := addr / 64; ; page-- {
		if (addr-page*64)%size == 0 && (addr-page*64)/size < class.Slots(k) && w.lies(page, k) {
			return page
		}
		if addr/64-page >= class.Pages(k) {
			w.t.Fatalf("an object of class %d at %d", k, addr)
		}
	}
}

// lies is whether nothing but objects of class k lies on the pages that a span of that class there would have.
func (w *watch) lies(page, k int) bool {
	from, to := page*64, (page+class.Pages(k))*64
	for _, o := range w.view.Objects {
		if o.Addr >= from && o.Addr < to && (class.Of(len(o.Slots)) != k || (o.Addr-from)%class.Size(k) != 0) {
			return false
		}
	}
	return true
}

// credit holds who is ahead.
func (w *watch) credit() {
	w.t.Helper()
	was := w.scanned
	w.scanned = map[int]int64{}
	for g := range w.view.Gs {
		a, s := w.m.Credit(g)
		if w.view.Phase != api.Mark {
			if a != 0 || s != 0 {
				w.t.Fatalf("28.7: Credit(%d) in phase %d: %d %d", g, w.view.Phase, a, s)
			}
			continue
		}
		if a != w.allocated[g] || s < was[g] {
			w.t.Fatalf("28.7: Credit(%d): %d %d, but %d %d", g, a, s, w.allocated[g], was[g])
		}
		w.scanned[g] = s
		if r := w.m.Goal().Ratio; r > 0 && a > 64+fix.Int(fix.Div(fix.Whole(s), r)) {
			w.t.Fatalf("T6: Credit(%d): %d %d by %d", g, a, s, r)
		}
	}
}

// queues holds where goroutines are, and how long they run.
func (w *watch) queues(ch api.Choice, e api.Event, was api.View) {
	w.t.Helper()
	runs := map[int]bool{}
	for g, x := range w.view.Gs {
		ok := x.P == -1
		switch x.State {
		case api.GRuns:
			ok = x.P >= 0 && x.P < w.c.Ps && !runs[x.P]
			runs[x.P] = true
		case api.GRunnable:
			ok = x.P >= -1 && x.P < w.c.Ps
		}
		if !ok {
			w.t.Fatalf("T5: goroutine %d: State %d, P %d", g, x.State, x.P)
		}
	}
	p := ch.P
	if e.Kind != api.EvCommit {
		return
	}
	other := slices.ContainsFunc(was.Gs, func(x api.Goroutine) bool { return x.State == api.GRunnable && x.P == p })
	if e.G != w.runs[p] || !other {
		w.row[p] = 0
	}
	w.runs[p] = e.G
	if w.row[p]++; w.row[p] > 64 {
		w.t.Fatalf("28.7: P %d runs %d for %d commits", p, e.G, w.row[p])
	}
}

// ends holds how the run stands.
func (w *watch) ends(e api.Event, was api.View) {
	w.t.Helper()
	count := make([]int, 6)
	for _, x := range w.view.Gs {
		count[x.State]++
	}
	want := api.Runs
	switch {
	case e.Kind == api.EvEnd:
		want = api.OutOf
		w.outOf(e)
	case count[api.GDead] == len(w.view.Gs):
		want = api.Done
	case w.model.Stuck():
		want = api.Deadlock
	}
	if w.m.Status() != want {
		w.t.Fatalf("28.1: Status: %d, but %d", w.m.Status(), want)
	}
}

// outOf holds that there is no room at all, behind a whole cycle.
func (w *watch) outOf(e api.Event) {
	w.t.Helper()
	in, ok := w.model.Next(e.G)
	if !ok || in.Op != api.OpAlloc || w.m.Room(in.B+1) != 0 || w.view.Phase != api.Off {
		w.t.Fatalf("28.8: OutOf: %+v, Room %d", in, w.m.Room(in.B+1))
	}
	if !w.ended[e.G] {
		w.t.Fatal("28.8: OutOf ahead of a whole cycle")
	}
	if len(w.reach) != len(w.view.Objects) {
		w.t.Fatalf("T6: OutOf, where %d of %d can be reached", len(w.reach), len(w.view.Objects))
	}
}

// waits is whether somebody's next instruction is an allocation of which there is no room.
func (w *watch) waits() bool {
	for g, x := range w.view.Gs {
		if x.State == api.GDead || x.State == api.GWaits {
			continue
		}
		if in, _ := w.model.Next(g); in.Op == api.OpAlloc && w.m.Room(in.B+1) == 0 {
			return true
		}
	}
	return false
}

// commitIsDue is whether a step of that P counts for 28.9's three in a row.
func (w *watch) commitIsDue(ch api.Choice, live int, waits bool) bool {
	if w.view.Phase != api.Off || w.on && int64(live) >= w.m.Goal().Trigger || waits || ch.Preempt {
		return false
	}
	return slices.ContainsFunc(w.view.Gs, func(x api.Goroutine) bool {
		return x.State == api.GRuns && x.P == ch.P || x.State == api.GRunnable && (x.P == ch.P || x.P == -1)
	})
}

// rows holds what is bounded by steps of a P.
func (w *watch) rows(ch api.Choice, e api.Event, due bool) {
	w.t.Helper()
	p := ch.P
	if w.dry[p]++; e.Kind == api.EvCommit || !due {
		w.dry[p] = 0
	}
	if w.dry[p] > 2 {
		w.t.Fatalf("28.9: %d steps of P %d, and no commit", w.dry[p], p)
	}
	if w.stop[p]++; w.view.Phase != api.Term {
		clear(w.stop)
	}
	if w.stop[p] > 16 {
		w.t.Fatalf("28.5: %d steps of P %d in Term", w.stop[p], p)
	}
	if w.due[p]++; w.view.Phase != api.Off || !w.on || int64(w.m.Live()) < w.m.Goal().Trigger {
		clear(w.due)
	}
	if w.due[p] > 64 {
		w.t.Fatalf("28.7: %d steps of P %d, and no cycle", w.due[p], p)
	}
}

// round is a step of each P, as 28.9 says.
func (w *watch) round() {
	w.t.Helper()
	for p := range w.c.Ps {
		w.step(api.Choice{P: p, Victim: (p + 1) % w.c.Ps})
	}
}

// finish goes on by rounds till the run has ended, at most so many.
func (w *watch) finish(rounds, status int) {
	w.t.Helper()
	for range rounds {
		if w.m.Status() != api.Runs {
			break
		}
		w.round()
	}
	if w.m.Status() != status {
		w.t.Fatalf("28.1: Status: %d, not %d, in phase %d behind %d commits", w.m.Status(), status, w.m.Phase(), w.m.Commits())
	}
}

// running is the goroutine that p runs; -1.
func running(v api.View, p int) int {
	return slices.IndexFunc(v.Gs, func(x api.Goroutine) bool { return x.State == api.GRuns && x.P == p })
}

// objectAt is the object at an address.
func objectAt(v api.View, addr int) (api.Object, bool) {
	i, ok := slices.BinarySearchFunc(v.Objects, addr, func(o api.Object, addr int) int { return o.Addr - addr })
	if !ok {
		return api.Object{}, false
	}
	return v.Objects[i], true
}

// reached is the addresses that can be reached from globals and from stacks of those that are not dead.
func reached(v api.View) map[int]bool {
	is := map[int]bool{}
	var todo []int
	add := func(l []int) {
		for _, addr := range l {
			if addr != 0 && !is[addr] {
				is[addr] = true
				todo = append(todo, addr)
			}
		}
	}
	add(v.Globals)
	for _, x := range v.Gs {
		if x.State != api.GDead {
			add(x.Stack)
		}
	}
	for len(todo) > 0 {
		o, _ := objectAt(v, todo[len(todo)-1])
		todo = todo[:len(todo)-1]
		add(o.Slots)
	}
	return is
}

// same is whether two views are the same in all.
func same(a, b api.View) bool {
	gs := slices.EqualFunc(a.Gs, b.Gs, func(x, y api.Goroutine) bool {
		return x.State == y.State && x.P == y.P && slices.Equal(x.Stack, y.Stack)
	})
	objects := slices.EqualFunc(a.Objects, b.Objects, func(x, y api.Object) bool {
		return x.Addr == y.Addr && x.Marked == y.Marked && slices.Equal(x.Slots, y.Slots)
	})
	work := a.Grey == b.Grey && a.Notes == b.Notes && a.Roots == b.Roots
	return gs && objects && work && a.Phase == b.Phase && a.Cycle == b.Cycle && a.Clock == b.Clock && slices.Equal(a.Globals, b.Globals)
}
