package audit

import (
	"treadmill/api"
	"treadmill/class"
	"treadmill/view"
)

// leastAddr is the least address that an object may have: page 0 is none.
const leastAddr = api.PageWords

// lost is whether something is named that is no object.
func lost(v api.View, _ int) bool {
	return len(view.Lost(v)) > 0
}

// objects is whether objects do not lie one behind the other.
func objects(v api.View, _ int) bool {
	for i, o := range v.Objects {
		size := class.Size(class.Of(len(o.Slots)))
		if o.Addr < leastAddr || size == 0 {
			return true
		}
		// The difference does not wrap: this one is above 0, and the next one is not below it.
		if i+1 < len(v.Objects) && (v.Objects[i+1].Addr < o.Addr || v.Objects[i+1].Addr-o.Addr < size) {
			return true
		}
	}
	return false
}

// twice is whether two goroutines run on one P.
func twice(v api.View, _ int) bool {
	runs := map[int]int{}
	for _, g := range v.Gs {
		if g.State == api.GRuns {
			runs[g.P]++
		}
		if runs[g.P] > 1 {
			return true
		}
	}
	return false
}

// places is whether a goroutine is where none of its state may be.
func places(v api.View, ps int) bool {
	for _, g := range v.Gs {
		may := g.P == -1
		switch g.State {
		case api.GRuns:
			may = g.P >= 0 && g.P < ps
		case api.GRunnable:
			may = g.P >= -1 && g.P < ps
		}
		if !may {
			return true
		}
	}
	return false
}

// work is whether there is something to be marked where nothing is, or less than nothing.
func work(v api.View, _ int) bool {
	for _, n := range []int{v.Grey, v.Notes, v.Roots} {
		if n < 0 || n > 0 && v.Phase != api.Mark {
			return true
		}
	}
	return false
}

// white is whether marking has ended, and something that can be reached is not marked.
func white(v api.View, _ int) bool {
	return v.Phase == api.Term && len(view.White(v)) > 0
}

// numbers is whether a number is none that it may be.
func numbers(v api.View, _ int) bool {
	if v.Phase < api.Off || v.Phase > api.Sweep || v.Cycle < 0 || v.Clock < 0 {
		return true
	}
	for _, g := range v.Gs {
		if len(g.Stack) != api.Stack {
			return true
		}
	}
	return false
}

// marked is whether an object is, in Off.
func marked(v api.View, _ int) bool {
	for _, o := range v.Objects {
		if o.Marked && v.Phase == api.Off {
			return true
		}
	}
	return false
}
