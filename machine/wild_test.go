package machine_test

import (
	"fmt"
	"math"
	"math/rand"
	"testing"

	"treadmill/api"
)

// choice is one of all kinds.
func choice(r *rand.Rand, ps int) api.Choice {
	ch := api.Choice{P: r.Intn(ps), Victim: r.Intn(ps+2) - 1}
	if r.Intn(40) == 0 {
		ch.Preempt = true
	}
	if r.Intn(20) == 0 {
		ch.Tick = r.Intn(60) - 5
	}
	if r.Intn(2000) == 0 {
		ch.P = r.Intn(2*ps) - ps/2
		ch.Tick = math.MaxInt
	}
	return ch
}

func TestWild(t *testing.T) {
	t.Parallel()
	percents := []float64{100, 0, 50, math.Inf(1), -1, math.NaN(), 1000, math.Copysign(0, -1)}
	parts := []float64{0.25, 1, 0, math.NaN(), 0.5, math.Inf(-1), 0.75}
	for seed := range 60 {
		r := rand.New(rand.NewSource(int64(seed)))
		c := api.Config{
			Ps:      1 + r.Intn(5),
			Words:   64 * (4 + r.Intn(30)),
			Percent: percents[r.Intn(len(percents))],
			Part:    parts[r.Intn(len(parts))],
		}
		t.Run(fmt.Sprint(seed), func(t *testing.T) {
			t.Parallel()
			w := watched(t, c, wild(r))
			for range 2500 {
				w.step(choice(r, c.Ps))
				if w.m.Status() != api.Runs {
					w.step(choice(r, c.Ps))
					break
				}
			}
		})
	}
}
