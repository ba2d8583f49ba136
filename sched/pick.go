package sched

const (
	each = 61 // of so many ticks one asks the common queue first, else a ring that is never empty would keep others from it
	most = 64 // how many a P takes out of the common queue at once
)

// pick is one Pick; its methods ask one place each, and take out who is to run.
type pick struct {
	*Sched
	p, tick, victim int
}

// turn asks the common queue, if it is its turn.
func (k pick) turn() (int, bool) {
	if k.tick == 0 || k.tick%each != 0 {
		return 0, false
	}
	return k.take(1)
}

// own asks the P's ring.
func (k pick) own() (int, bool) {
	return k.ring(k.p).Get()
}

// shared asks the common queue, out of which others come along.
func (k pick) shared() (int, bool) {
	return k.take(most)
}

// stolen asks the victim's ring, if it is another P's.
func (k pick) stolen() (int, bool) {
	k.ring(k.p).Steal(k.ring(k.victim))
	return k.own()
}

// take takes at most so many out of the common queue: the first one is told, the others go to the P's ring.
func (k pick) take(atMost int) (int, bool) {
	l := k.common.Get(len(k.rings), atMost)
	if len(l) == 0 {
		return 0, false
	}
	for _, g := range l[1:] {
		k.Ready(k.p, g, false)
	}
	return l[0], true
}
