package eval

import (
	"slices"

	"haymow/api"
	"haymow/code"
	"haymow/ops"
	"haymow/plain"
)

// failure is a panic with the reason: one task that fails ends all of them.
type failure int

// tooMany is a panic, too: an instruction more than may be done.
type tooMany struct{}

// whole is what all tasks of an evaluation share.
type whole struct {
	program []code.Func
	limits  Limits
	left    int // how many instructions may still be done
	plain   map[int]func(*plain.State, code.Instr)
	does    map[int]func(*task, code.Instr)
	told    []int64
	log     []Entry
}

// future is what a task of a future came to, if there was one.
type future struct {
	there bool
	value int64
}

// stored is a spawn's value, and the register that a sync puts it into.
type stored struct {
	register int
	value    int64
}

type task struct {
	plain.State
	whole   *whole
	code    []code.Instr
	path    []int
	place   int // where in the log it stands
	kids    int
	futures [api.Handles]future
	spawned []stored // since the last sync
	over    bool
	value   int64
}

// operations are those that are not plain.
func operations() map[int]func(*task, code.Instr) {
	return map[int]func(*task, code.Instr){
		ops.Div:    (*task).div,
		ops.Spawn:  (*task).spawn,
		ops.Sync:   (*task).sync,
		ops.Future: (*task).future,
		ops.Touch:  (*task).touch,
		ops.Emit:   (*task).emit,
		ops.Fail:   (*task).fail,
		ops.Ret:    (*task).ret,
	}
}

// evaluate does a task's instructions to its end, and tells its value.
func (w *whole) evaluate(fn int, args []int64, path []int, futures [api.Handles]future) int64 {
	t := &task{whole: w, code: w.program[fn].Code, path: path, place: len(w.log), futures: futures}
	copy(t.Regs[:], args)
	w.log = append(w.log, Entry{Path: path})
	for !t.over {
		t.step()
	}
	return t.value
}

func (t *task) step() {
	w := t.whole
	if w.log[t.place].Steps == w.limits.Budget {
		panic(failure(api.FailBudget))
	}
	if w.left <= 0 {
		panic(tooMany{})
	}
	w.left--
	w.log[t.place].Steps++
	in := t.code[t.At]
	t.At++
	if do, ok := w.plain[in.Op]; ok {
		do(&t.State, in)
	} else {
		w.does[in.Op](t, in)
	}
}

// begin evaluates the task that a spawn or a future begins.
func (t *task) begin(in code.Instr) int64 {
	w := t.whole
	if len(t.path) == w.limits.Depth {
		panic(failure(api.FailDepth))
	}
	args := t.Regs[in.B : in.B+w.program[in.C].Arity]
	path := append(slices.Clip(t.path), t.kids)
	t.kids++
	return w.evaluate(in.C, args, path, t.futures)
}

func (t *task) div(in code.Instr) {
	if !t.Div(in) {
		panic(failure(api.FailZero))
	}
}

func (t *task) spawn(in code.Instr) {
	t.spawned = append(t.spawned, stored{in.A, t.begin(in)})
}

func (t *task) sync(code.Instr) {
	for _, s := range t.spawned {
		t.Regs[s.register] = s.value
	}
	t.spawned = nil
}

func (t *task) future(in code.Instr) {
	t.futures[in.A] = future{there: true, value: t.begin(in)}
}

func (t *task) touch(in code.Instr) {
	touched := t.futures[in.B]
	if !touched.there {
		panic(failure(api.FailTouch))
	}
	t.Regs[in.A] = touched.value
}

func (t *task) emit(in code.Instr) { t.whole.told = append(t.whole.told, t.Regs[in.A]) }

func (t *task) fail(in code.Instr) { panic(failure(in.K)) }

func (t *task) ret(in code.Instr) {
	t.sync(in)
	t.over, t.value = true, t.Regs[in.A]
}
