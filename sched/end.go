package sched

import "haymow/api"

// returns ends the worker's task with a value, unless another one has failed.
func (w *worker) returns(register int) move {
	t := w.task
	if t.settles() {
		t.node.Value = t.Regs[register]
	} else {
		t.node.Fail = api.FailOther
	}
	return w.gathers(0)
}

// fails ends it with a failure. It has not ended ahead of the tasks that it has
// begun: a job is done with all its instructions, and gives back all blocks.
func (w *worker) fails(why int) move {
	w.task.node.Fail = why
	return w.behindKids((*worker).leaves)
}

func (w *worker) leaves() move { return w.gathers(0) }

// gathers loads what the task told, one number with each move, from a piece on.
func (w *worker) gathers(from int) move {
	t := w.task
	for from < len(t.node.Pieces) && t.node.Pieces[from].Kid {
		from++
	}
	if from == len(t.node.Pieces) {
		return w.fills()
	}
	return func() move {
		piece := &t.node.Pieces[from]
		number, e := w.memory.Load(int(piece.Number))
		w.minds(e)
		piece.Number = number
		return w.gathers(from + 1)
	}
}

// fills tells those who touch the task's future what it came to.
func (w *worker) fills() move {
	t := w.task
	if t.cell == none {
		return w.retires
	}
	fill := w.cell(t.cell).Fill(t.node.Value, int64(t.node.Fail))
	return func() move {
		return w.drives(fill, func() move {
			end, e := fill.End()
			w.minds(e)
			return w.wakes(int(end.First))
		})
	}
}

// wakes makes those ready who wait for the task's future, from one on. It looks
// at a link ahead of that, because behind it the link may be another one.
func (w *worker) wakes(block int) move {
	if block == none {
		return w.retires
	}
	t := w.tasks[block]
	return func() move {
		next, e := w.memory.Load(t.link())
		w.minds(e)
		return w.readies(t, func() move { return w.wakes(int(next)) })
	}
}

// retires ends the task. Only now is the one that began it told so: where that
// one has ended, so have all below, and where a first one has, its job is over.
func (w *worker) retires() move {
	t := w.task
	w.minds(w.epochs.Retire(w.number, t.block))
	delete(w.tasks, t.block)
	w.task = nil
	if t.parent != nil {
		return func() move { return w.frees(t.parent) }
	}
	blocks := t.job.blocks
	t.job.ends(t.node)
	return w.clears(blocks)
}

// frees takes one from the tasks that another one waits for.
func (w *worker) frees(t *task) move {
	if w.adds(t.alive(), -1) < 0 {
		return w.readies(t, w.looks)
	}
	return w.looks
}

// clears retires a job's cells and chunks, one with each move.
func (w *worker) clears(blocks []int) move {
	if len(blocks) == 0 {
		return w.looks
	}
	return func() move {
		w.minds(w.epochs.Retire(w.number, blocks[0]))
		return w.clears(blocks[1:])
	}
}
