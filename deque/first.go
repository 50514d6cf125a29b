package deque

import (
	"haymow/api"
	"haymow/mem"
)

// first are the rules of kind 3: T is how many numbers were taken, E how many
// were pushed; the slots are gone through round and round.
type first struct{ *Op }

func (x first) push(m *mem.Mem) (move, api.Errno) {
	return x.loadT(m, x.pushLooks)
}

func (x first) pushLooks(m *mem.Mem) (move, api.Errno) {
	t, e := m.Load(x.wordE())
	if e == api.OK && t-x.t >= x.room() {
		e = api.ErrFull
	}
	x.e = t
	return behind(e, x.pushFills)
}

func (x first) pushFills(m *mem.Mem) (move, api.Errno) {
	return x.fill(m, x.e%x.room(), x.pushEnds)
}

func (x first) pushEnds(m *mem.Mem) (move, api.Errno) {
	return nil, m.Store(x.wordE(), x.e+1)
}

func (x first) pop(m *mem.Mem) (move, api.Errno) {
	x.final = x.popEnds
	return x.loadT(m, x.takeLooks)
}

func (x first) popEnds(m *mem.Mem) (move, api.Errno) {
	return nil, m.Store(x.wordT(), x.t+1)
}

func (x first) steal(m *mem.Mem) (move, api.Errno) {
	x.final = x.stealRaces
	return x.loadT(m, x.takeLooks)
}

func (x first) stealRaces(m *mem.Mem) (move, api.Errno) {
	return x.race(m, x.t+1)
}

func (x first) takeLooks(m *mem.Mem) (move, api.Errno) {
	t, e := m.Load(x.wordE())
	if e == api.OK && x.t >= t {
		e = api.ErrEmpty
	}
	return behind(e, x.takeFinds)
}

func (x first) takeFinds(m *mem.Mem) (move, api.Errno) {
	return x.find(m, x.t%x.room(), x.final)
}
