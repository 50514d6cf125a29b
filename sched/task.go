package sched

import (
	"slices"

	"haymow/api"
	"haymow/frame"
	"haymow/merge"
)

const nowhere = -1 // in place of a register: no sync stores a future's value

// task is one, with what its frame does not know.
type task struct {
	*frame.Frame
	job    *job
	block  int                // its frame's
	at     int                // where that stands
	parent *task              // the one that began it, if one did
	cell   int                // its future's block, if it has one
	node   *merge.Node        // as long as it goes on, a piece's number says where the number stands
	begun  []begun            // since the last sync
	chunk  int                // where its last chunk stands
	told   int                // how many numbers
	next   func(*worker) move // of whichever worker takes it
}

// begun is a task that another one has begun, and the register of that one for
// its value.
type begun struct {
	*task
	register int
}

// enters makes a task out of a frame.
func (m *Machine) enters(j *job, block int, f *frame.Frame) *task {
	t := &task{Frame: f, job: j, block: block, node: &merge.Node{}, next: (*worker).executes}
	t.at, _, _, _, _ = m.pool.Where(block)
	m.tasks[block] = t
	return t
}

// link is the word that says who waits behind it for the same cell.
func (t *task) link() int { return t.at }

// alive is the word that counts the tasks that it has begun and that have not
// ended, less one while it waits for them: so whoever makes it -1 knows that
// the task may go on.
func (t *task) alive() int { return t.at + 1 }

// adopts counts a task among those that it has begun.
func (t *task) adopts(kid *task, effect frame.Effect) {
	kid.parent = t
	register := effect.Reg
	if kid.cell != none {
		t.Hands[effect.Hand] = kid.cell
		register = nowhere
	}
	t.begun = append(t.begun, begun{kid, register})
	t.node.Pieces = append(t.node.Pieces, merge.Piece{Kid: true, Number: int64(len(t.node.Kids))})
	t.node.Kids = append(t.node.Kids, kid.node)
}

// settles stores spawns' values, and tells whether it could: all tasks that it
// has begun since the last sync have ended. An earlier failure has ended it.
func (t *task) settles() bool {
	kids := t.begun
	t.begun = nil
	if slices.ContainsFunc(kids, func(kid begun) bool { return kid.node.Fail != api.FailNone }) {
		return false
	}
	for _, kid := range kids {
		if kid.register != nowhere {
			t.Regs[kid.register] = kid.node.Value
		}
	}
	return true
}
