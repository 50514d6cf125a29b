package unfold

import (
	"slices"

	"haymow/api"
	"haymow/code"
	"haymow/eval"
	"haymow/merge"
	"haymow/ops"
	"haymow/plain"
)

// end is a panic with what a task comes to: it ends that task alone.
type end struct {
	value int64
	fail  int
}

// tooMany is a panic, too: an instruction more than may be done. It ends all.
type tooMany struct{}

// whole is what all tasks of an unfolding share.
type whole struct {
	program []code.Func
	limits  eval.Limits
	most    int
	plain   map[int]func(*plain.State, code.Instr)
	does    map[int]func(*task, code.Instr)
	log     []eval.Entry
	need    Need
}

// spawned is a task whose value a sync puts into the register.
type spawned struct {
	register int
	node     *merge.Node
}

type task struct {
	plain.State
	whole   *whole
	code    []code.Instr
	path    []int
	place   int // where in the log it stands
	node    *merge.Node
	futures [api.Handles]*merge.Node // what their tasks came to; nil where there is none
	spawned []spawned                // since the last sync
	told    int
	broken  bool // has a task failed that it began?
}

// operations are those that are not plain.
func operations() map[int]func(*task, code.Instr) {
	return map[int]func(*task, code.Instr){
		ops.Div:    (*task).div,
		ops.Spawn:  (*task).spawn,
		ops.Sync:   (*task).sync,
		ops.Future: (*task).future,
		ops.Touch:  (*task).touch,
		ops.Emit:   (*task).emit,
		ops.Fail:   (*task).fail,
		ops.Ret:    (*task).ret,
	}
}

// unfold does a task's instructions, and tells what it came to.
func (w *whole) unfold(fn int, args []int64, path []int, futures [api.Handles]*merge.Node) *merge.Node {
	t := &task{whole: w, code: w.program[fn].Code, path: path, place: len(w.log), node: &merge.Node{}, futures: futures}
	copy(t.Regs[:], args)
	w.log = append(w.log, eval.Entry{Path: path})
	w.need.Frames++
	t.run()
	return t.node
}

func (t *task) run() {
	defer func() {
		met := recover()
		how, over := met.(end)
		if !over {
			panic(met)
		}
		t.node.Value, t.node.Fail = how.value, how.fail
	}()
	for {
		t.step()
	}
}

func (t *task) step() {
	w := t.whole
	if w.log[t.place].Steps == w.limits.Budget {
		panic(end{fail: api.FailBudget})
	}
	if w.need.Steps >= w.most {
		panic(tooMany{})
	}
	w.need.Steps++
	w.log[t.place].Steps++
	in := t.code[t.At]
	t.At++
	if do, ok := w.plain[in.Op]; ok {
		do(&t.State, in)
	} else {
		w.does[in.Op](t, in)
	}
}

// begin unfolds the task that a spawn or a future begins. That it fails ends
// nothing here: who waits for it will see.
func (t *task) begin(in code.Instr) *merge.Node {
	w, nth := t.whole, len(t.node.Kids)
	if len(t.path) == w.limits.Depth {
		panic(end{fail: api.FailDepth})
	}
	args := t.Regs[in.B : in.B+w.program[in.C].Arity]
	kid := w.unfold(in.C, args, append(slices.Clip(t.path), nth), t.futures)
	t.node.Kids = append(t.node.Kids, kid)
	t.node.Pieces = append(t.node.Pieces, merge.Piece{Kid: true, Number: int64(nth)})
	t.broken = t.broken || kid.Fail != api.FailNone
	return kid
}

func (t *task) div(in code.Instr) {
	if !t.Div(in) {
		panic(end{fail: api.FailZero})
	}
}

func (t *task) spawn(in code.Instr) {
	t.spawned = append(t.spawned, spawned{in.A, t.begin(in)})
}

func (t *task) sync(code.Instr) {
	if t.broken {
		panic(end{fail: api.FailOther})
	}
	for _, s := range t.spawned {
		t.Regs[s.register] = s.node.Value
	}
	t.spawned = nil
}

func (t *task) future(in code.Instr) {
	t.futures[in.A] = t.begin(in)
	t.whole.need.Cells++
}

func (t *task) touch(in code.Instr) {
	touched := t.futures[in.B]
	if touched == nil {
		panic(end{fail: api.FailTouch})
	}
	if touched.Fail != api.FailNone {
		panic(end{fail: api.FailOther})
	}
	t.Regs[in.A] = touched.Value
}

func (t *task) emit(in code.Instr) {
	if t.told%api.ChunkRoom == 0 {
		t.whole.need.Chunks++
	}
	t.told++
	t.node.Pieces = append(t.node.Pieces, merge.Piece{Number: t.Regs[in.A]})
}

func (t *task) fail(in code.Instr) { panic(end{fail: in.K}) }

func (t *task) ret(in code.Instr) {
	t.sync(in)
	panic(end{value: t.Regs[in.A]})
}
