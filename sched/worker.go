package sched

import (
	"haymow/api"
	"haymow/deque"
	"haymow/mem"
)

// move does at most one step of the memory, one instruction, or one act on a
// block or a row, and tells the next move.
type move func() move

// worker is one, with its machine.
type worker struct {
	*Machine
	number int
	deque  deque.Deque
	aside  []int64 // tickets for which the deque had no room
	victim int     // which it is handed with the move that it does
	task   *task
	next   move
}

// operation is one of a deque, or of a cell.
type operation interface {
	Move(m *mem.Mem) bool
}

// drives does a move of an operation; with its last one it asks how to go on.
func (w *worker) drives(o operation, ended func() move) move {
	if o.Move(w.memory) {
		return ended()
	}
	return func() move { return w.drives(o, ended) }
}

// looks is what a worker without a task begins with.
func (w *worker) looks() move {
	pop := w.deque.Pop()
	return w.drives(pop, func() move { return w.finds(pop, w.looksAside) })
}

// finds goes on with what an operation has handed out, if it has.
func (w *worker) finds(o *deque.Op, otherwise move) move {
	ticket, e := o.End()
	switch e {
	case api.OK:
		return w.tries(ticket)
	case api.ErrEmpty, api.ErrAbort:
	default:
		w.minds(e)
	}
	return otherwise
}

func (w *worker) looksAside() move {
	last := len(w.aside) - 1
	if last < 0 {
		return w.asksJobs
	}
	ticket := w.aside[last]
	w.aside = w.aside[:last]
	return w.tries(ticket)
}

func (w *worker) asksJobs() move {
	select {
	case ticket := <-w.begun:
		return w.tries(ticket)
	default:
		return w.robs
	}
}

func (w *worker) robs() move {
	if !w.has(w.victim) || w.victim == w.number {
		return w.announces
	}
	steal := w.workers[w.victim].deque.Steal()
	return w.drives(steal, func() move { return w.finds(steal, w.announces) })
}

// tries claims the task of a ticket: of all who are handed the same ticket one
// gets the task.
func (w *worker) tries(ticket int64) move {
	claimed, block := ticket/api.MaxWords, int(ticket%api.MaxWords)
	return func() move {
		mine, e := w.memory.Swap(w.claim(block), claimed, claimed+1)
		w.minds(e)
		if !mine {
			return w.looks
		}
		w.task = w.tasks[block]
		return w.goesOn
	}
}

func (w *worker) goesOn() move { return w.task.next(w) }

func (w *worker) announces() move {
	gone, e := w.epochs.Announce(w.number)
	w.minds(e)
	return w.gives(gone)
}

// gives gives blocks back, one with each move.
func (w *worker) gives(gone []int) move {
	if len(gone) == 0 {
		return w.drains
	}
	return func() move {
		w.minds(w.pool.Give(w.number, gone[0]))
		return w.gives(gone[1:])
	}
}

// drains is done by idle workers, too, since blocks must come home even if
// nobody needs them.
func (w *worker) drains() move {
	w.pool.Drain(w.number)
	return w.looks
}

// sleeps leaves the task, till somebody makes it ready, to whoever takes it
// then.
func (w *worker) sleeps(next func(*worker) move) move {
	w.task.next = next
	w.task = nil
	return w.looks
}

// adds is a step on one of the words that count.
func (w *worker) adds(at int, n int64) int64 {
	sum, e := w.memory.Add(at, n)
	w.minds(e)
	return sum
}

// readies puts a task into a row of the worker's own.
func (w *worker) readies(t *task, then move) move {
	return func() move {
		ticket := w.ticket(t)
		return func() move { return w.pushes(ticket, then) }
	}
}

func (w *worker) pushes(ticket int64, then move) move {
	push := w.deque.Push(ticket)
	return w.drives(push, func() move {
		switch _, e := push.End(); e {
		case api.OK:
		case api.ErrFull:
			return w.putsAside(ticket, then)
		default:
			w.minds(e)
		}
		return then
	})
}

func (w *worker) putsAside(ticket int64, then move) move {
	return func() move {
		w.aside = append(w.aside, ticket)
		return then
	}
}
