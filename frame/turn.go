package frame

import (
	"slices"

	"haymow/api"
	"haymow/code"
	"haymow/eval"
	"haymow/ops"
	"haymow/plain"
)

// turn is what an instruction is done with: where its frame goes on and its
// registers, which are the frame's once it is done, and what else it looks at.
type turn struct {
	plain.State
	frame   *Frame
	program []code.Func
	limits  eval.Limits
}

// operations are those that are not plain.
func operations() map[int]func(*turn, code.Instr) Effect {
	return map[int]func(*turn, code.Instr) Effect{
		ops.Div:    (*turn).div,
		ops.Spawn:  (*turn).spawn,
		ops.Sync:   (*turn).sync,
		ops.Future: (*turn).future,
		ops.Touch:  (*turn).touch,
		ops.Emit:   (*turn).emit,
		ops.Fail:   (*turn).fail,
		ops.Ret:    (*turn).ret,
	}
}

func (t *turn) do(in code.Instr) Effect {
	if do, ok := plain.Operations()[in.Op]; ok {
		do(&t.State, in)
		return Effect{Kind: Goes}
	}
	return operations()[in.Op](t, in)
}

func fails(why int) Effect { return Effect{Kind: Fails, Why: why} }

func (t *turn) div(in code.Instr) Effect {
	if !t.Div(in) {
		return fails(api.FailZero)
	}
	return Effect{Kind: Goes}
}

func (t *turn) spawn(in code.Instr) Effect {
	return t.begin(in, Effect{Kind: Begins, Reg: in.A})
}

func (t *turn) future(in code.Instr) Effect {
	return t.begin(in, Effect{Kind: Futures, Hand: in.A})
}

// begin tells of a task what spawns and futures tell alike.
func (t *turn) begin(in code.Instr, effect Effect) Effect {
	f := t.frame
	if len(f.Path) >= t.limits.Depth {
		return fails(api.FailDepth)
	}
	effect.Fn = in.C
	effect.Args = slices.Clone(t.Regs[in.B : in.B+t.program[in.C].Arity])
	effect.Path = append(slices.Clip(f.Path), f.Kids)
	f.Kids++
	return effect
}

func (t *turn) sync(code.Instr) Effect { return Effect{Kind: Waits} }

func (t *turn) touch(in code.Instr) Effect {
	number := t.frame.Hands[in.B]
	if number == 0 {
		return fails(api.FailTouch)
	}
	return Effect{Kind: Touches, Reg: in.A, Hand: number}
}

func (t *turn) emit(in code.Instr) Effect { return Effect{Kind: Tells, Value: t.Regs[in.A]} }

func (t *turn) fail(in code.Instr) Effect { return fails(in.K) }

func (t *turn) ret(in code.Instr) Effect { return Effect{Kind: Ends, Reg: in.A} }
