package machine

import (
	"treadmill/api"
	"treadmill/arena"
	"treadmill/class"
)

// book is what the arena does not tell of spans: where they lie, and how many of their places are used.
type book struct {
	arena *arena.Arena
	kinds []int8 // by page: the class of the object that came there last
	first []int  // by span's id: its first page
	used  []int  // by class: how many places
}

// newBook is the book of an arena of so many words.
func newBook(a *arena.Arena, words int) *book {
	return &book{arena: a, kinds: make([]int8, words/api.PageWords), used: make([]int, class.Count())}
}

// add tells a new object. Each span that is made serves at once, so all of them come to be known.
func (b *book) add(addr int) {
	slot, _ := b.arena.Find(addr)
	k := b.arena.Class(slot.Span)
	for slot.Span >= len(b.first) {
		b.first = append(b.first, 0)
	}
	b.first[slot.Span] = (addr - slot.Index*class.Size(k)) / api.PageWords
	b.kinds[addr/api.PageWords] = int8(k)
	b.used[k]++
}

// del tells that an object is gone.
func (b *book) del(addr int) {
	b.used[b.kinds[addr/api.PageWords]]--
}

// size is the words that an object takes up which is there.
func (b *book) size(addr int) int {
	return class.Size(int(b.kinds[addr/api.PageWords]))
}

// live is how many words all objects take up.
func (b *book) live() int {
	if b == nil {
		return 0
	}
	live := 0
	for k, n := range b.used {
		live += n * class.Size(k)
	}
	return live
}

// room is how many more objects of n slots there is room for: places that are free, and those of spans that the free pages let be.
func (b *book) room(n int) int {
	k := class.Of(n)
	if b == nil || k < 0 {
		return 0
	}
	taken := make([]bool, len(b.kinds)+1)
	taken[0], taken[len(b.kinds)] = true, true // page 0 is none, and behind the last one ends its run
	places := -b.used[k]
	for _, id := range b.arena.Spans() {
		c := b.arena.Class(id)
		for i := range class.Pages(c) {
			taken[b.first[id]+i] = true
		}
		if c == k {
			places += class.Slots(k)
		}
	}
	run := 0
	for _, is := range taken {
		if !is {
			run++
			continue
		}
		places += run / class.Pages(k) * class.Slots(k)
		run = 0
	}
	return places
}
