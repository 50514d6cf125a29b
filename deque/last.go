package deque

import (
	"haymow/api"
	"haymow/mem"
)

// last are the rules of kind 2: T (with a tag) is how many numbers there are,
// E is never looked at.
type last struct{ *Op }

func (x last) push(m *mem.Mem) (move, api.Errno) {
	t, e := m.Load(x.wordT())
	if e == api.OK && place(t) == x.room() {
		e = api.ErrFull
	}
	x.t = t
	return behind(e, x.pushFills)
}

func (x last) pushFills(m *mem.Mem) (move, api.Errno) {
	return x.fill(m, place(x.t), x.pushEnds)
}

func (x last) pushEnds(m *mem.Mem) (move, api.Errno) {
	return nil, m.Store(x.wordT(), raised(x.t, place(x.t)+1))
}

func (x last) pop(m *mem.Mem) (move, api.Errno) {
	x.final = x.popEnds
	return x.takeLooks(m)
}

func (x last) popEnds(m *mem.Mem) (move, api.Errno) {
	return nil, m.Store(x.wordT(), x.t-1)
}

func (x last) steal(m *mem.Mem) (move, api.Errno) {
	x.final = x.stealRaces
	return x.takeLooks(m)
}

func (x last) stealRaces(m *mem.Mem) (move, api.Errno) {
	return x.race(m, x.t-1)
}

func (x last) takeLooks(m *mem.Mem) (move, api.Errno) {
	t, e := m.Load(x.wordT())
	if e == api.OK && place(t) == 0 {
		e = api.ErrEmpty
	}
	x.t = t
	return behind(e, x.takeFinds)
}

func (x last) takeFinds(m *mem.Mem) (move, api.Errno) {
	return x.find(m, place(x.t)-1, x.final)
}
