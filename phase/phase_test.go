package phase_test

import (
	"math"
	"math/rand"
	"testing"

	"treadmill/api"
	"treadmill/phase"
)

// 25.1: the document's example.
func TestExample(t *testing.T) {
	p := to(t, 2, api.Mark)
	p.say(0, true, false)
	p.say(1, true, true)
	p.say(1, true, false)
	if p.f.Quiet() {
		t.Error("25.1: Quiet, and P 0 has not said so again")
	}
	p.say(0, true, false)
	if !p.f.Quiet() {
		t.Error("25.1: not Quiet")
	}
}

// 25.1: New at and beside its bounds.
func TestNew(t *testing.T) {
	for _, ps := range []int{math.MinInt, -64, -1, 0, 65, 66, 1 << 32, 1<<32 + 1, math.MaxInt} {
		if f, err := phase.New(ps); f != nil || err != api.ErrArg {
			t.Errorf("25.1: New(%d): %v, %d", ps, f, err)
		}
	}
	for _, ps := range []int{1, 2, 63, 64} {
		p := both(t, ps)
		if p.f.Phase() != api.Off || p.f.Cycle() != 0 || p.f.Restarts() != 0 || p.f.Quiet() {
			t.Errorf("25.1: New(%d): phase %d, cycle %d", ps, p.f.Phase(), p.f.Cycle())
		}
	}
}

// calls are all that turn a phase, by the phase that they leave.
func calls(p *pair) [4]func() int {
	return [4]func() int{api.Off: p.begin, api.Mark: p.term, api.Term: p.sweep, api.Sweep: p.end}
}

// 25.1: each call in each phase: ErrState of others, and nothing is turned; Say in Mark alone.
func TestEachCall(t *testing.T) {
	for at := range 4 {
		for from := range 4 {
			p := to(t, 3, at)
			p.hush()
			err := calls(p)[from]()
			want, phase := api.ErrState, at
			if from == at {
				want, phase = api.OK, (at+1)%4
			}
			if err != want || p.f.Phase() != phase {
				t.Errorf("25.1: what leaves phase %d, in %d: %d, and it is %d", from, at, err, p.f.Phase())
			}
			cycle := 1
			if at == api.Off && from != api.Off {
				cycle = 0
			}
			if p.f.Cycle() != cycle {
				t.Errorf("25.1: what leaves phase %d, in %d: cycle %d", from, at, p.f.Cycle())
			}
		}
		for said := range 4 {
			p := to(t, 2, at)
			want := api.ErrState
			if at == api.Mark {
				want = api.OK
			}
			if err := p.say(1, said%2 > 0, said/2 > 0); err != want {
				t.Errorf("25.1: Say in phase %d: %d", at, err)
			}
		}
	}
}

// 25.1: Say of no P, in each phase: nobody is forgotten by it.
func TestNoP(t *testing.T) {
	for at := range 4 {
		for _, i := range []int{math.MinInt, -2, -1, 2, 3, 64, 1 << 32, math.MaxInt} {
			p := to(t, 2, at)
			p.hush()
			for said := range 4 {
				if err := p.say(i, said%2 > 0, said/2 > 0); err != api.ErrArg {
					t.Errorf("25.1: Say of P %d in phase %d: %d", i, at, err)
				}
			}
			if p.f.Quiet() != (at == api.Mark) || p.f.Restarts() != 0 {
				t.Errorf("25.1: Say of P %d in phase %d turned something", i, at)
			}
		}
	}
}

// 25.1: Say of one that is empty, that is not, that flushed, where somebody had said so and where nobody had.
func TestSay(t *testing.T) {
	for _, x := range []struct{ empty, flushed, counts bool }{{true, false, true}, {false, false, false}, {true, true, false}, {false, true, false}} {
		for who := range 3 {
			for had := range 8 { // which Ps had said so
				p := to(t, 3, api.Mark)
				for i := range 3 {
					if had>>i&1 > 0 {
						p.say(i, true, false)
					}
				}
				p.say(who, x.empty, x.flushed)
				restarts := 0
				if !x.counts && had > 0 {
					restarts = 1
				}
				if p.f.Restarts() != restarts || p.f.Quiet() != (x.counts && had|1<<who == 7) {
					t.Errorf("25.1: Say(%d, %v, %v) beside %b: %d restarts, quiet %v", who, x.empty, x.flushed, had, p.f.Restarts(), p.f.Quiet())
				}
				p.say(who, x.empty, x.flushed)
				if p.f.Restarts() != restarts {
					t.Errorf("25.1: Say(%d, %v, %v) again: %d restarts", who, x.empty, x.flushed, p.f.Restarts())
				}
				p.hush()
				if !p.f.Quiet() {
					t.Error("25.1: not Quiet, and all have said so")
				}
			}
		}
	}
}

// 25.1: Quiet with all, and with all but one; Term only then.
func TestQuiet(t *testing.T) {
	for _, ps := range []int{1, 2, 3, 63, 64} {
		for without := range ps {
			p := to(t, ps, api.Mark)
			for i := range ps {
				if i != without {
					p.say(i, true, false)
					p.say(i, true, false)
				}
			}
			if p.f.Quiet() || p.term() != api.ErrState || p.f.Phase() != api.Mark {
				t.Errorf("25.1: Quiet without P %d of %d", without, ps)
			}
			p.say(without, true, false)
			if !p.f.Quiet() || p.term() != api.OK || p.f.Quiet() {
				t.Errorf("25.1: not Quiet with all %d", ps)
			}
		}
	}
}

// 25.1: cycle upon cycle: each begins with nobody who said anything, and without restarts.
func TestCycles(t *testing.T) {
	p := both(t, 2)
	for cycle := range 50 {
		if p.f.Cycle() != cycle || p.begin() != api.OK || p.f.Cycle() != cycle+1 || p.f.Quiet() || p.f.Restarts() != 0 {
			t.Fatalf("25.1: cycle %d begins with %d restarts", p.f.Cycle(), p.f.Restarts())
		}
		for range cycle {
			p.hush()
			p.say(cycle%2, false, false)
		}
		p.hush()
		p.term()
		p.sweep()
		if p.end() != api.OK || p.f.Restarts() != cycle || p.f.Quiet() {
			t.Fatalf("25.1: cycle %d ends with %d restarts", p.f.Cycle(), p.f.Restarts())
		}
	}
}

// 25.1: long rows of all calls, against the plain ones.
func TestRows(t *testing.T) {
	r := rand.New(rand.NewSource(25))
	for round := range 300 {
		ps := 1 + round%5
		if round%60 == 59 {
			ps = 64
		}
		p := both(t, ps)
		for range 400 {
			switch what := r.Intn(100); {
			case what < 60:
				p.say(r.Intn(ps+2)-1, r.Intn(12) > 0, r.Intn(12) == 0)
			case what < 75:
				p.hush()
			default:
				calls(p)[r.Intn(4)]()
			}
		}
		if ps < 5 && p.l.cycle < 3 {
			t.Fatalf("25.1: the rows came to cycle %d", p.l.cycle)
		}
	}
}

// 25.2: Term begins only where each P said that it is empty, since the last one that was not.
func TestSinceTheLast(t *testing.T) {
	r := rand.New(rand.NewSource(252))
	began := 0
	for range 2000 {
		ps := 1 + r.Intn(4)
		f, _ := phase.New(ps)
		f.Begin()
		var since []int // who said so, one by one
		for range 20 {
			i, empty, flushed := r.Intn(ps), r.Intn(8) > 0, r.Intn(8) == 0
			f.Say(i, empty, flushed)
			if empty && !flushed {
				since = append(since, i)
			} else {
				since = nil
			}
			all := map[int]bool{}
			for _, i := range since {
				all[i] = true
			}
			if err := f.Term(); (err == api.OK) != (len(all) == ps) {
				t.Fatalf("25.2: Term of %d Ps behind %v: %d", ps, since, err)
			} else if err == api.OK {
				began++
				break
			}
		}
	}
	if began == 0 {
		t.Error("25.2: Term never began")
	}
}

// 25.1: nil Phases are in none, and all that turns them is ErrArg.
func TestNil(t *testing.T) {
	var none *phase.Phases
	for range 2 {
		for i, err := range []int{none.Begin(), none.Say(0, true, false), none.Say(-1, false, true), none.Term(), none.Sweep(), none.End()} {
			if err != api.ErrArg {
				t.Errorf("25.1: call %d of none: %d", i, err)
			}
		}
		if none.Phase() != 0 || none.Cycle() != 0 || none.Restarts() != 0 || none.Quiet() {
			t.Error("25.1: of none: something")
		}
	}
}

// 25.1: Phases that New did not make do not panic.
func TestNotNew(t *testing.T) {
	var f phase.Phases
	f.Say(0, true, false)
	f.Begin()
	f.Say(0, false, false)
	f.Quiet()
	f.Term()
	f.Sweep()
	f.End()
	f.Restarts()
}
