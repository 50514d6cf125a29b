package sched

import (
	"haymow/api"
	"haymow/cell"
	"haymow/frame"
	"haymow/merge"
)

// executes does an instruction of the worker's task.
func (w *worker) executes() move {
	t := w.task
	if !t.job.runs() {
		return w.fails(api.FailDead)
	}
	before := t.Steps
	effect, e := frame.Exec(t.job.program, t.job.limits, t.Frame)
	w.minds(e)
	if t.Steps > before {
		w.events = append(w.events, Event{Job: t.job.number, Nth: t.Steps, Path: t.Path})
	}
	return w.follows(effect)
}

// follows does nothing by itself: what an effect asks for takes moves of its
// own.
func (w *worker) follows(effect frame.Effect) move {
	switch effect.Kind {
	case frame.Goes:
		return w.executes
	case frame.Tells:
		return w.tells(effect.Value)
	case frame.Begins:
		return w.begins(effect, none)
	case frame.Futures:
		return w.takes(cells, func(block int) move { return w.begins(effect, block) })
	case frame.Waits:
		return w.behindKids((*worker).settles)
	case frame.Touches:
		return w.touches(effect)
	case frame.Ends:
		return w.behindKids(func(w *worker) move { return w.returns(effect.Reg) })
	default:
		return w.fails(effect.Why)
	}
}

// takes takes a block for the worker's task, and goes on with it, unless the
// job is over, or is so now.
func (w *worker) takes(class int, then func(block int) move) move {
	return func() move {
		j := w.task.job
		switch {
		case !j.runs():
			return w.fails(api.FailDead)
		case w.pool.Free(w.number, class) > 0:
			block, e := w.pool.Take(w.number, class)
			w.minds(e)
			if class != frames {
				j.blocks = append(j.blocks, block)
			}
			return then(block)
		case w.pool.Remote(w.number) > 0:
			w.pool.Drain(w.number)
			return w.takes(class, then)
		default:
			j.stops(Exhausted)
			return w.fails(api.FailDead)
		}
	}
}

func (w *worker) tells(number int64) move {
	t := w.task
	if t.told%api.ChunkRoom != 0 {
		return w.writes(number)
	}
	return w.takes(chunks, func(block int) move {
		t.chunk, _, _, _, _ = w.pool.Where(block)
		return w.writes(number)
	})
}

func (w *worker) writes(number int64) move {
	t := w.task
	at := t.chunk + t.told%api.ChunkRoom
	return func() move {
		w.minds(w.memory.Store(at, number))
		t.told++
		t.node.Pieces = append(t.node.Pieces, merge.Piece{Number: int64(at)})
		return w.executes
	}
}

// begins begins a task, for a spawn or, with a cell, for a future. It counts as
// alive ahead of anybody's taking it.
func (w *worker) begins(effect frame.Effect, future int) move {
	t := w.task
	return w.takes(frames, func(block int) move {
		kid := w.enters(t.job, block, frame.New(effect.Fn, effect.Path, effect.Args, t.Hands))
		kid.cell = future
		t.adopts(kid, effect)
		return func() move {
			w.adds(t.alive(), 1)
			return w.readies(kid, w.executes)
		}
	})
}

// behindKids goes on once all tasks that the worker's one has begun have ended,
// at once or when the last of them makes it ready.
func (w *worker) behindKids(next func(*worker) move) move {
	t := w.task
	if len(t.begun) == 0 {
		return func() move { return next(w) }
	}
	return func() move {
		if w.adds(t.alive(), -1) < 0 {
			return func() move { return next(w) }
		}
		return w.sleeps(next)
	}
}

// settles ends a sync. If the task has waited for it, from now on it does not.
func (w *worker) settles() move {
	t := w.task
	w.minds(w.memory.Store(t.alive(), 0))
	if !t.settles() {
		return w.fails(api.FailOther)
	}
	return w.executes
}

func (w *worker) touches(effect frame.Effect) move {
	t := w.task
	wait := w.cell(effect.Hand).Wait(int64(t.block), t.link())
	return func() move {
		return w.drives(wait, func() move {
			end, e := wait.End()
			w.minds(e)
			switch {
			case end.Waits:
				// It is filled when the task goes on: to wait again tells it.
				return w.sleeps(func(w *worker) move { return w.touches(effect) })
			case end.Why != api.FailNone:
				return w.fails(api.FailOther)
			}
			t.Regs[effect.Reg] = end.Value
			return w.executes
		})
	}
}

// cell is that of a block.
func (w *worker) cell(block int) cell.Cell {
	at, _, _, _, _ := w.pool.Where(block)
	return cell.At(at)
}
