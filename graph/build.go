package graph

import (
	"slices"

	"haymow/api"
	"haymow/code"
	"haymow/eval"
	"haymow/frame"
)

const (
	nobody  = -1 // in place of a step: none began the first task
	nowhere = -1 // in place of a register: no sync stores a future's value
)

// builder drives a program's tasks, each one that is begun to its end at once,
// and writes down what their steps are behind.
type builder struct {
	program []code.Func
	limits  eval.Limits
	behind  [][]int
	futures []end // by their numbers, which are from 1 on
}

// end is how a task ended.
type end struct {
	last  int // its last step
	value int64
	fail  int
}

// task is one, with what its frame does not know. As long as it goes on, its
// end has the step that its next one is behind as the last one: at first that
// which began it.
type task struct {
	*frame.Frame
	end
	begun []begun // since the last sync
}

// begun is how a task ended that another one has begun, and the register of
// that one for its value.
type begun struct {
	end
	register int
}

// run does a task to its end. The program has been unfolded: so it may run, and
// Exec has no error to tell.
func (b *builder) run(f *frame.Frame, from int) end {
	t := &task{Frame: f, end: end{last: from}}
	for t.Steps < b.limits.Budget {
		effect, _ := frame.Exec(b.program, b.limits, f)
		b.step(t, b.waits(t, effect))
		if b.over(t, effect) {
			return t.end
		}
	}
	t.fail = api.FailBudget
	return t.end
}

// step writes one of a task down.
func (b *builder) step(t *task, waits []int) {
	b.behind = append(b.behind, row(append(waits, t.last)...))
	t.last = len(b.behind) - 1
}

// row puts together what a step is behind: rising, each once, and nobody not.
func row(steps ...int) []int {
	r := slices.Clone(steps)
	slices.Sort(r)
	return slices.DeleteFunc(slices.Compact(r), func(step int) bool { return step == nobody })
}

// waits are the last steps of the tasks that an instruction waits for, also
// where it fails because one of them has.
func (b *builder) waits(t *task, effect frame.Effect) []int {
	var lasts []int
	switch effect.Kind {
	case frame.Waits, frame.Ends:
		for _, kid := range t.begun {
			lasts = append(lasts, kid.last)
		}
	case frame.Touches:
		lasts = append(lasts, b.future(effect).last)
	}
	return lasts
}

// future is that of a touch.
func (b *builder) future(effect frame.Effect) end { return b.futures[effect.Hand-1] }

// over does what an effect asks for, and tells whether its task has ended.
func (b *builder) over(t *task, effect frame.Effect) bool {
	switch effect.Kind {
	case frame.Begins:
		b.begin(t, effect, effect.Reg)
	case frame.Futures:
		kid := b.begin(t, effect, nowhere)
		b.futures = append(b.futures, kid)
		t.Hands[effect.Hand] = len(b.futures)
	case frame.Waits:
		return !t.sync()
	case frame.Touches:
		return !t.touch(b.future(effect), effect.Reg)
	case frame.Ends:
		if t.sync() {
			t.value = t.Regs[effect.Reg]
		}
		return true
	case frame.Fails:
		t.fail = effect.Why
		return true
	}
	return false
}

func (b *builder) begin(t *task, effect frame.Effect, register int) end {
	kid := b.run(frame.New(effect.Fn, effect.Path, effect.Args, t.Hands), t.last)
	t.begun = append(t.begun, begun{kid, register})
	return kid
}

// sync stores spawns' values, and tells whether it could. Only those that were
// begun since the last one can have failed: an earlier failure ended the task.
func (t *task) sync() bool {
	if slices.ContainsFunc(t.begun, func(kid begun) bool { return kid.fail != api.FailNone }) {
		t.fail = api.FailOther
		return false
	}
	for _, kid := range t.begun {
		if kid.register != nowhere {
			t.Regs[kid.register] = kid.value
		}
	}
	t.begun = nil
	return true
}

// touch stores a future's value, and tells whether it could.
func (t *task) touch(future end, register int) bool {
	if future.fail != api.FailNone {
		t.fail = api.FailOther
		return false
	}
	t.Regs[register] = future.value
	return true
}
