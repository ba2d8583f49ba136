package desk_test

import (
	"math/rand"
	"strconv"
	"strings"
	"testing"

	"treadmill/api"
	"treadmill/audit"
	"treadmill/code"
	"treadmill/desk"
	"treadmill/machine"
)

// usual is a configuration of so many Ps.
func usual(ps int) api.Config {
	return api.Config{Ps: ps, Words: 512, Percent: 50, Part: 0.25}
}

// script is a program's.
func script(t testing.TB, globals int, funcs ...[]api.Inst) []byte {
	t.Helper()
	b, err := code.Encode(api.Program{Globals: globals, Funcs: funcs})
	if err != api.OK {
		t.Fatal("a program that may not be")
	}
	return b
}

// ends is a script that ends at once.
func ends(t testing.TB) []byte {
	return script(t, 0, []api.Inst{{}})
}

// busy is a script of some goroutines that make garbage, wake one another, yield and sleep, and never end.
func busy(t testing.TB) []byte {
	return script(t, 1,
		[]api.Inst{{Op: api.OpSpawn, A: 1}, {Op: api.OpSpawn, A: 2}, {Op: api.OpSpawn, A: 2}, {Op: api.OpSleep, C: 40}, {Op: api.OpWake, A: 3}, {Op: api.OpJump, A: 3}},
		[]api.Inst{{Op: api.OpAlloc, B: 4}, {Op: api.OpGet, A: 1}, {Op: api.OpStore, C: 1}, {Op: api.OpYield}, {Op: api.OpPut, B: 0}, {Op: api.OpNil}, {Op: api.OpAlloc, A: 2}, {Op: api.OpPut, B: 15}, {Op: api.OpJump}},
		[]api.Inst{{Op: api.OpBlock, A: 3}, {Op: api.OpAlloc, A: 1, B: 20}, {Op: api.OpJump}})
}

// told holds what lines tell.
func told(t *testing.T, name string, c api.Config, script []byte, lines, want string) {
	t.Helper()
	if got := desk.Run(c, script, lines); got != want {
		t.Errorf("32.2: %s: %q, not %q", name, got, want)
	}
}

func TestExample(t *testing.T) {
	told(t, "the example", usual(1), ends(t), "round 2\nstatus", "done\n")
}

func TestLine(t *testing.T) {
	stack := make([]int, 16)
	for _, x := range []struct {
		v    api.View
		want string
	}{
		{api.View{}, "off 0 0 0 0 0"},
		{api.View{Phase: api.Mark, Cycle: 12, Clock: 1 << 40, Grey: 3}, "mark 12 1099511627776 0 0 0"},
		{api.View{Phase: api.Term, Objects: make([]api.Object, 3)}, "term 0 0 3 0 2"},
		{api.View{Phase: api.Sweep, Gs: []api.Goroutine{{State: api.GDead, P: -1, Stack: stack}, {State: api.GRuns, P: 63, Stack: stack}, {State: api.GWaits, P: -1, Stack: stack}, {State: api.GIdle, P: -1, Stack: stack}}}, "sweep 0 0 0 3 0"},
		{api.View{Gs: []api.Goroutine{{State: api.GRuns, P: 64, Stack: stack}}}, "off 0 0 0 1 4"}, // of 64 Ps
		{api.View{Cycle: -1, Clock: -5}, "off -1 -5 0 0 7"},
		{api.View{Phase: 4}, " 0 0 0 0 7"},
	} {
		if got := desk.Line(x.v); got != x.want {
			t.Errorf("32.1: Line(%+v): %q, not %q", x.v, got, x.want)
		}
	}
}

func TestErrorsOfNew(t *testing.T) {
	many := strings.Repeat("show\n", 300)
	for _, lines := range []string{"", "show", "round 5\nshow\n", many} {
		told(t, "a configuration", usual(0), ends(t), lines, "error 1 0\n")
		told(t, "a configuration", api.Config{Ps: 1, Words: 100}, nil, lines, "error 1 0\n")
		told(t, "a script", usual(1), nil, lines, "error 6 0\n")
		told(t, "a script", usual(1), []byte{1, 0, 1, 0, 0, 9, 0}, lines, "error 6 5\n")
		told(t, "a script", usual(1), append(ends(t), 7), lines, "error 6 7\n")
	}
}

func TestWords(t *testing.T) {
	wrong := []string{
		"step", "step ", "step  0", " step 0", "step 0 ", "step 0 0", "step -1", "step +1", "step a", "step 1a", "step a1", "step 1a1", "step 0x1", "step 1.0", "step 00000000", "step 12345678", "step\t0", "step 0\r", "Step 0", "STEP 0", "steps 0", "ste 0", "step0", "step ٣", "step 1_0",
		"round", "round ", "round 1001", "round 9999999", "round -0", "round 1 1", "round 00001001", "rounds 1",
		"tick", "tick 1048577", "tick 9999999", "tick -1", "tick 10485760", "tick 1 ",
		"stop", "stop x", "stop 0 1", "stop 99999999",
		"show ", " show", "show 1", "show show", "shows", "status ", "status 0", "count 1", "count ", "Count", "count\r", "count\x00",
		" ", "  ", "0", "error", "step\v0", "\t", "é",
	}
	for _, line := range wrong {
		told(t, "of "+strconv.Quote(line), usual(2), ends(t), line, "error\n")
		told(t, "of "+strconv.Quote(line), usual(2), ends(t), "count\n"+line+"\ncount\n", "0\nerror\n0\n")
	}
	right := []string{"step 0", "step 1", "step 2", "step 9999999", "step 0000000", "step 0000001", "stop 0", "stop 64", "stop 9999999", "round 0", "round 1000", "round 0001000", "tick 0", "tick 1048576", "tick 0000009", ""}
	for _, line := range right {
		told(t, "of "+strconv.Quote(line), usual(2), ends(t), line, "")
		told(t, "of "+strconv.Quote(line), usual(2), ends(t), line+"\n", "")
	}
}

func TestLines(t *testing.T) {
	for _, x := range []struct{ name, lines, want string }{
		{"none", "", ""},
		{"an empty one", "\n", ""},
		{"empty ones", "\n\n\ncount\n\n\nstatus\n\n", "0\nruns\n"},
		{"the last one with its byte 10", "count\nstatus\n", "0\nruns\n"},
		{"the last one without", "count\nstatus", "0\nruns\n"},
		{"200", strings.Repeat("count\n", 200), strings.Repeat("0\n", 200)},
		{"200, the last one without", strings.Repeat("count\n", 199) + "count", strings.Repeat("0\n", 200)},
		{"200 empty ones", strings.Repeat("\n", 200), ""},
		{"201", strings.Repeat("count\n", 201), "error\n"},
		{"201, the last one without", strings.Repeat("count\n", 200) + "x", "error\n"},
		{"201, the last one empty", strings.Repeat("count\n", 200) + "\n", "error\n"},
		{"201 empty ones", strings.Repeat("\n", 201), "error\n"},
		{"many", strings.Repeat("step 0\n", 100000), "error\n"},
	} {
		told(t, x.name, usual(1), ends(t), x.lines, x.want)
	}
}

func TestStatus(t *testing.T) {
	list := script(t, 1, []api.Inst{{Op: api.OpGet}, {Op: api.OpAlloc, A: 1, B: 99}, {Op: api.OpStore, A: 1}, {Op: api.OpPut, B: 1}, {Op: api.OpJump}})
	for _, x := range []struct {
		script []byte
		want   string
	}{
		{busy(t), "runs"},
		{ends(t), "done"},
		{list, "out"},
		{script(t, 0, []api.Inst{{Op: api.OpBlock}}), "deadlock"},
		{script(t, 0, []api.Inst{{Op: api.OpSleep}, {}}), "runs"},
	} {
		told(t, x.want, usual(2), x.script, "status\nround 1000\nstatus\ntick 0\nstatus\n", "runs\n"+x.want+"\n"+x.want+"\n")
	}
	told(t, "a tick wakes", usual(2), script(t, 0, []api.Inst{{Op: api.OpSleep, C: 9}, {}}), "round 9\ntick 9\nround 1\ncount\ntick 1\nstatus\ncount", "1\ndone\n2\n")
}

// plain does a line to a machine, as 32.2 says: what that tells.
func plain(m *machine.Machine, ps int, line string) string {
	word, rest, _ := strings.Cut(line, " ")
	n, _ := strconv.Atoi(rest)
	switch word {
	case "step":
		m.Step(api.Choice{P: n, Victim: (n + 1) % ps})
	case "stop":
		m.Step(api.Choice{P: n, Victim: (n + 1) % ps, Preempt: true})
	case "tick":
		m.Step(api.Choice{P: 0, Victim: 1 % ps, Tick: n})
	case "round":
		for range n {
			for p := range ps {
				m.Step(api.Choice{P: p, Victim: (p + 1) % ps})
			}
		}
	case "show":
		v := m.View()
		alive := 0
		for _, g := range v.Gs {
			if g.State != api.GDead {
				alive++
			}
		}
		l := []string{[]string{"off", "mark", "term", "sweep"}[v.Phase]}
		for _, n := range []int{v.Cycle, int(v.Clock), len(v.Objects), alive, audit.Check(v, 64)} {
			l = append(l, strconv.Itoa(n))
		}
		return strings.Join(l, " ") + "\n"
	case "status":
		return []string{"runs", "done", "out", "deadlock"}[m.Status()] + "\n"
	case "count":
		return strconv.Itoa(m.Commits()) + "\n"
	}
	return ""
}

// some is lines of all commands.
func some(r *rand.Rand, ps, n int) []string {
	var l []string
	for range n {
		p := strconv.Itoa(r.Intn(ps + 2))
		l = append(l, []string{"step " + p, "step " + p, "stop " + p, "round " + strconv.Itoa(r.Intn(30)), "tick " + strconv.Itoa(r.Intn(60)), "show", "status", "count", "", "show"}[r.Intn(10)])
	}
	return l
}

func TestAgainstTheMachine(t *testing.T) {
	for seed := range int64(60) {
		r := rand.New(rand.NewSource(seed))
		c := usual(1 + r.Intn(4))
		s := busy(t)
		lines := some(r, c.Ps, 200)
		m, _, _ := machine.New(c, s)
		var want strings.Builder
		for _, line := range lines {
			want.WriteString(plain(m, c.Ps, line))
		}
		got := desk.Run(c, s, strings.Join(lines, "\n"))
		if got != want.String() {
			t.Fatalf("32.2: %v: %q, not %q", lines, got, want.String())
		}
	}
}

func TestEachPhase(t *testing.T) {
	phases := map[string]bool{}
	for n := range 400 {
		word, _, _ := strings.Cut(desk.Run(usual(1), busy(t), "round "+strconv.Itoa(n)+"\nshow"), " ")
		phases[word] = true
	}
	for _, name := range []string{"off", "mark", "term", "sweep"} {
		if !phases[name] || len(phases) != 4 {
			t.Errorf("32.1: %s: %v", name, phases)
		}
	}
}

func TestBeginnings(t *testing.T) {
	r := rand.New(rand.NewSource(1))
	for range 10 {
		lines := some(r, 3, 60)
		all := desk.Run(usual(3), busy(t), strings.Join(lines, "\n"))
		for n := range lines {
			if begin := desk.Run(usual(3), busy(t), strings.Join(lines[:n], "\n")); !strings.HasPrefix(all, begin) {
				t.Fatalf("32.3: %q is no beginning of %q", begin, all)
			}
		}
	}
}
