package timer

import "treadmill/api"

// sleeper is a timer, and its place in the order of Add, by which no two are alike.
type sleeper struct {
	api.Timer
	order int
}

// before is whether s stands ahead of o.
func (s sleeper) before(o sleeper) bool {
	if s.When != o.When {
		return s.When < o.When
	}
	return s.order < o.order
}

// list is sleepers that know their order: sort calls its methods.
type list []sleeper

// Len is how many there are.
func (l list) Len() int {
	return len(l)
}

// Less is whether the one at i stands ahead of the one at j.
func (l list) Less(i, j int) bool {
	return l[i].before(l[j])
}

// Swap turns the ones at i and j.
func (l list) Swap(i, j int) {
	l[i], l[j] = l[j], l[i]
}

// pile is a heap of sleepers, the first one on top: container/heap calls its methods and its list's.
type pile struct {
	list
}

// Push lays x behind all others.
func (p *pile) Push(x any) {
	p.list = append(p.list, x.(sleeper))
}

// Pop takes the last one out.
func (p *pile) Pop() any {
	last := len(p.list) - 1
	s := p.list[last]
	p.list = p.list[:last]
	return s
}

// first is the one ahead of all others, of some.
func (p *pile) first() sleeper {
	return p.list[0]
}

// seek is where the first one of that g stands; -1, if there is none.
func (p *pile) seek(g int) int {
	at := -1
	for i, s := range p.list {
		if s.G == g && (at < 0 || s.before(p.list[at])) {
			at = i
		}
	}
	return at
}
