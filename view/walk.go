package view

import (
	"slices"

	"treadmill/api"
)

// names is what is named, each once; 0 names nothing.
type names struct {
	all  []int
	seen map[int]int // how often
}

// add adds what a list names.
func (n *names) add(l []int) {
	for _, addr := range l {
		if addr == 0 {
			continue
		}
		if n.seen[addr] == 0 {
			n.all = append(n.all, addr)
		}
		n.seen[addr]++
	}
}

// rising is what a list names, rising, each once.
func rising(l []int) []int {
	named := slices.DeleteFunc(slices.Clone(l), func(addr int) bool { return addr == 0 })
	slices.Sort(named)
	return slices.Compact(named)
}

// walk is how far a view's objects were gone along from its roots.
type walk struct {
	objects []api.Object
	at      map[int]int // by address: the first object's place
	from    map[int]int // by address that was reached: the one ahead of it on its way; 0, if it is a root
	order   []int       // the addresses that were reached, by their ways: shorter ones first, of like ones the least
	lost    []int       // what was named and is no object's
}

// explore goes along all ways of a view, or till it has reached a certain address.
func explore(v api.View, till int) *walk {
	w := &walk{objects: v.Objects, at: map[int]int{}, from: map[int]int{}}
	for i, o := range v.Objects {
		if _, is := w.at[o.Addr]; !is {
			w.at[o.Addr] = i
		}
	}
	next, ahead := Roots(v), 0
ways:
	for i := 0; ; i++ {
		// Names rise, and who was reached first is gone on from first: so the first way to an object is the least of its length.
		for _, addr := range rising(next) {
			if w.reach(addr, ahead); addr == till {
				break ways
			}
		}
		if i == len(w.order) {
			break ways
		}
		ahead = w.order[i]
		next = w.object(ahead).Slots
	}
	return w
}

// reach comes to an address from the one ahead.
func (w *walk) reach(addr, ahead int) {
	if _, is := w.at[addr]; !is {
		w.lost = append(w.lost, addr)
		return
	}
	if _, was := w.from[addr]; !was {
		w.from[addr] = ahead
		w.order = append(w.order, addr)
	}
}

// object is the first one at an address where there is one.
func (w *walk) object(addr int) api.Object {
	return w.objects[w.at[addr]]
}

// back is the way to an address that was reached, from its root on; nothing of others.
func (w *walk) back(addr int) []int {
	var way []int
	for ahead, is := w.from[addr]; is; ahead, is = w.from[addr] {
		way = append(way, addr)
		addr = ahead
	}
	slices.Reverse(way)
	return way
}
