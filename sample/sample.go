// Package sample makes programs that may run, for tests: they spawn, touch,
// tell and fail often enough that many of them come to something.
package sample

import (
	"haymow/code"
	"haymow/ops"
)

const (
	maxFuncs = 4
	maxArity = 3
	maxCode  = 14
	// Few registers and futures, so that the same ones are used again; with
	// the arguments behind a register they are still all there.
	regs    = 5
	handles = 3
)

// Program makes one out of choices: pick is asked for a number from 0 on that
// is below n.
func Program(pick func(n int) int) []code.Func {
	p := make([]code.Func, 1+pick(maxFuncs))
	for i := range p {
		p[i] = code.Func{Arity: pick(maxArity + 1), Code: make([]code.Instr, 1+pick(maxCode))}
		for k := range p[i].Code {
			p[i].Code[k] = instruction(pick, len(p), len(p[i].Code))
		}
		p[i].Code[len(p[i].Code)-1] = last(pick, len(p[i].Code))
	}
	return p
}

// Args makes arguments for a program.
func Args(pick func(n int) int, p []code.Func) []int64 {
	args := make([]int64, p[0].Arity)
	for i := range args {
		args[i] = int64(pick(9) - 4)
	}
	return args
}

// often is how often each operation is taken, of 100 times.
var often = [...]int{
	ops.Set: 12, ops.Move: 3, ops.Add: 5, ops.Sub: 3, ops.Mul: 4, ops.Div: 4,
	ops.Less: 3, ops.Same: 3, ops.Jump: 1, ops.Zero: 4, ops.Spawn: 16, ops.Sync: 8,
	ops.Future: 11, ops.Touch: 6, ops.Emit: 14, ops.Fail: 1, ops.Ret: 2,
}

func operation(pick func(n int) int) int {
	left := pick(100)
	op := 0
	for left >= often[op] {
		left -= often[op]
		op++
	}
	return op
}

func instruction(pick func(n int) int, functions, places int) code.Instr {
	op := operation(pick)
	var numbers [4]int
	for i, kind := range ops.Fields(op) {
		numbers[i] = number(pick, kind, functions, places)
	}
	return code.Instr{Op: op, A: numbers[0], B: numbers[1], C: numbers[2], K: numbers[3]}
}

func last(pick func(n int) int, places int) code.Instr {
	switch pick(12) {
	case 0:
		return code.Instr{Op: ops.Jump, K: pick(places)}
	case 1:
		return code.Instr{Op: ops.Fail, K: number(pick, ops.Reason, 0, 0)}
	default:
		return code.Instr{Op: ops.Ret, A: pick(regs)}
	}
}

func number(pick func(n int) int, kind ops.Kind, functions, places int) int {
	switch kind {
	case ops.Register:
		return pick(regs)
	case ops.Handle:
		return pick(handles)
	case ops.Function:
		return pick(functions)
	case ops.Place:
		return pick(places)
	case ops.Reason:
		return 16 + pick(5)
	case ops.Number:
		return pick(9) - 3
	default:
		return 0
	}
}
