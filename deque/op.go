package deque

import (
	"haymow/api"
	"haymow/mem"
)

// move does one step of the memory, and tells the next move. The last one
// tells none, and how the operation ended.
type move func(m *mem.Mem) (move, api.Errno)

// rules are the first moves of a kind's operations.
type rules interface {
	push(m *mem.Mem) (move, api.Errno)
	pop(m *mem.Mem) (move, api.Errno)
	steal(m *mem.Mem) (move, api.Errno)
}

// Op is an operation.
type Op struct {
	in     Deque
	next   move
	final  move // where a pop and a steal differ in their last move alone
	ended  bool
	how    api.Errno
	takes  bool  // a push has a number, too, but hands none out
	number int64 // what is pushed, or was found in a slot
	e, t   int64 // what was made of the words E and T, as they were loaded
}

func (o *Op) rules() rules {
	switch o.in.kind {
	case exactKind:
		return exact{o}
	case lastKind:
		return last{o}
	case firstKind:
		return first{o}
	}
	return nil
}

// Move does a move.
func (o *Op) Move(m *mem.Mem) bool {
	if o == nil || o.next == nil {
		return true
	}
	o.next, o.how = o.next(m)
	o.ended = o.next == nil
	return o.ended
}

// End tells how it ended.
func (o *Op) End() (int64, api.Errno) {
	if o == nil || !o.ended {
		return 0, api.ErrState
	}
	if o.how != api.OK || !o.takes {
		return 0, o.how
	}
	return o.number, api.OK
}

func (o *Op) wordE() int { return o.in.base }

func (o *Op) wordT() int { return o.in.base + 1 }

func (o *Op) slot(n int64) int { return o.in.base + ahead + int(n) }

func (o *Op) room() int64 { return int64(o.in.room) }

func (o *Op) loadT(m *mem.Mem, next move) (move, api.Errno) {
	t, e := m.Load(o.wordT())
	o.t = t
	return behind(e, next)
}

// find loads the slot whose number may be handed out.
func (o *Op) find(m *mem.Mem, slot int64, next move) (move, api.Errno) {
	n, e := m.Load(o.slot(slot))
	o.number = n
	return behind(e, next)
}

// fill stores in a slot what is pushed.
func (o *Op) fill(m *mem.Mem, slot int64, next move) (move, api.Errno) {
	return behind(m.Store(o.slot(slot), o.number), next)
}

// race is the last move of all that may come too late: T must still be as it
// was loaded.
func (o *Op) race(m *mem.Mem, n int64) (move, api.Errno) {
	swapped, e := m.Swap(o.wordT(), o.t, n)
	if e == api.OK && !swapped {
		e = api.ErrAbort
	}
	return nil, e
}

// behind goes on with the next move, unless there is an error, which ends the
// operation: a fault of the memory, or what the step has found.
func behind(e api.Errno, next move) (move, api.Errno) {
	if e != api.OK {
		return nil, e
	}
	return next, api.OK
}
