package deque

import (
	"haymow/api"
	"haymow/mem"
)

// exact are the rules of kind 1: E is where the next number is pushed, T (with
// a tag) is what is stolen next.
type exact struct{ *Op }

func (x exact) push(m *mem.Mem) (move, api.Errno) {
	b, e := m.Load(x.wordE())
	if e == api.OK && b == x.room() {
		e = api.ErrFull
	}
	x.e = b
	return behind(e, x.pushFills)
}

func (x exact) pushFills(m *mem.Mem) (move, api.Errno) {
	return x.fill(m, x.e, x.pushEnds)
}

func (x exact) pushEnds(m *mem.Mem) (move, api.Errno) {
	return nil, m.Store(x.wordE(), x.e+1)
}

func (x exact) pop(m *mem.Mem) (move, api.Errno) {
	b, e := m.Load(x.wordE())
	if e == api.OK && b == 0 {
		e = api.ErrEmpty
	}
	x.e = b - 1
	return behind(e, x.popLowers)
}

func (x exact) popLowers(m *mem.Mem) (move, api.Errno) {
	return behind(m.Store(x.wordE(), x.e), x.popFinds)
}

func (x exact) popFinds(m *mem.Mem) (move, api.Errno) {
	return x.find(m, x.e, x.popLooks)
}

// popLooks ends the pop where no thief can be after the same number: E was
// lowered ahead of the look at T.
func (x exact) popLooks(m *mem.Mem) (move, api.Errno) {
	t, e := m.Load(x.wordT())
	x.t = t
	if e != api.OK || x.e > place(t) {
		return nil, e
	}
	return x.popClears, api.OK
}

func (x exact) popClears(m *mem.Mem) (move, api.Errno) {
	e := m.Store(x.wordE(), 0)
	if x.e == place(x.t) {
		return behind(e, x.popRaces)
	}
	return behind(e, x.popLost)
}

// popRaces goes on where a thief was faster, because T must go back to 0 with
// E all the same.
func (x exact) popRaces(m *mem.Mem) (move, api.Errno) {
	swapped, e := m.Swap(x.wordT(), x.t, raised(x.t, 0))
	if e != api.OK || swapped {
		return nil, e
	}
	return x.popLost, api.OK
}

func (x exact) popLost(m *mem.Mem) (move, api.Errno) {
	e := m.Store(x.wordT(), raised(x.t, 0))
	if e == api.OK {
		e = api.ErrEmpty
	}
	return nil, e
}

func (x exact) steal(m *mem.Mem) (move, api.Errno) {
	return x.loadT(m, x.stealLooks)
}

func (x exact) stealLooks(m *mem.Mem) (move, api.Errno) {
	b, e := m.Load(x.wordE())
	if e == api.OK && b <= place(x.t) {
		e = api.ErrEmpty
	}
	return behind(e, x.stealFinds)
}

func (x exact) stealFinds(m *mem.Mem) (move, api.Errno) {
	return x.find(m, place(x.t), x.stealRaces)
}

func (x exact) stealRaces(m *mem.Mem) (move, api.Errno) {
	return x.race(m, x.t+1)
}
