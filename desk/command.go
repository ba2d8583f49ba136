package desk

import (
	"strconv"
	"strings"

	"treadmill/api"
	"treadmill/machine"
)

// bare is said of a command that takes no number.
const bare = -1

// The greatest numbers that commands take.
const (
	mostDigits = 7
	mostNumber = 9999999
	mostRounds = 1000
	mostTicks  = 1 << 20
)

// desk is a run that goes on by commands.
type desk struct {
	m  *machine.Machine
	ps int
}

// command is what a line may be: the greatest number that it takes, or bare, and what it does with it: what it tells.
type command struct {
	most int
	do   func(n int) string
}

// commands is all of them, by their words.
func (d *desk) commands() map[string]command {
	return map[string]command{
		"step":   {mostNumber, d.step},
		"round":  {mostRounds, d.round},
		"tick":   {mostTicks, d.tick},
		"stop":   {mostNumber, d.stop},
		"show":   {bare, d.show},
		"status": {bare, d.status},
		"count":  {bare, d.count},
	}
}

// answer does what a line says: what that tells.
func answer(commands map[string]command, line string) string {
	if line == "" {
		return ""
	}
	word, rest, more := strings.Cut(line, " ")
	c, is := commands[word]
	switch {
	case !is || more != (c.most != bare):
		return wrong
	case !more:
		return c.do(0)
	}
	n, is := number(rest)
	if !is || n > c.most {
		return wrong
	}
	return c.do(n)
}

// number is what digits tell, if they are such, and neither none nor too many.
func number(digits string) (int, bool) {
	if len(digits) < 1 || len(digits) > mostDigits || strings.Trim(digits, "0123456789") != "" {
		return 0, false
	}
	n, err := strconv.Atoi(digits)
	return n, err == nil
}

// choice is that of a step of a P, which may steal from the next one.
func (d *desk) choice(p int) api.Choice {
	return api.Choice{P: p, Victim: (p + 1) % d.ps}
}

func (d *desk) step(p int) string {
	d.m.Step(d.choice(p))
	return ""
}

func (d *desk) round(n int) string {
	for range n {
		for p := range d.ps {
			d.step(p)
		}
	}
	return ""
}

func (d *desk) tick(n int) string {
	ch := d.choice(0)
	ch.Tick = n
	d.m.Step(ch)
	return ""
}

func (d *desk) stop(p int) string {
	ch := d.choice(p)
	ch.Preempt = true
	d.m.Step(ch)
	return ""
}

func (d *desk) show(int) string {
	return Line(d.m.View())
}

func (d *desk) status(int) string {
	switch d.m.Status() {
	case api.Done:
		return "done"
	case api.OutOf:
		return "out"
	case api.Deadlock:
		return "deadlock"
	}
	return "runs"
}

func (d *desk) count(int) string {
	return strconv.Itoa(d.m.Commits())
}
