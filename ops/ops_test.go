package ops_test

import (
	"math"
	"testing"

	"haymow/code"
	"haymow/ops"
)

// shapes are the chapter's: a letter for each of A, B, C and K.
var shapes = map[string]string{
	"set": "r..n", "move": "rr..", "add": "rrr.", "sub": "rrr.", "mul": "rrr.", "div": "rrr.", "less": "rrr.", "same": "rrr.",
	"jump": "...p", "zero": "r..p", "spawn": "rrf.", "sync": "....", "future": "hrf.", "touch": "rh..", "emit": "r...", "fail": "...w", "ret": "r...",
}

func letter(kind ops.Kind) byte {
	return map[ops.Kind]byte{ops.Unused: '.', ops.Register: 'r', ops.Handle: 'h', ops.Function: 'f', ops.Place: 'p', ops.Reason: 'w', ops.Number: 'n'}[kind]
}

func TestFields(t *testing.T) {
	for name, want := range shapes {
		op := code.Named(name)
		if !ops.Known(op) {
			t.Errorf("%s is not known", name)
		}
		for i, kind := range ops.Fields(op) {
			if letter(kind) != want[i] {
				t.Errorf("%s: field %d is %c; want %c", name, i, letter(kind), want[i])
			}
		}
	}
}

func TestNoOperation(t *testing.T) {
	for _, op := range []int{0, -1, 18, 255, math.MinInt, math.MaxInt} {
		if ops.Known(op) || ops.Fields(op) != [4]ops.Kind{} {
			t.Errorf("%d is known: %v", op, ops.Fields(op))
		}
	}
}

func TestNumbers(t *testing.T) { // the chapter's table, by its names
	for name, op := range map[string]int{
		"set": ops.Set, "move": ops.Move, "add": ops.Add, "sub": ops.Sub, "mul": ops.Mul, "div": ops.Div, "less": ops.Less, "same": ops.Same,
		"jump": ops.Jump, "zero": ops.Zero, "spawn": ops.Spawn, "sync": ops.Sync, "future": ops.Future, "touch": ops.Touch, "emit": ops.Emit, "fail": ops.Fail, "ret": ops.Ret,
	} {
		if code.Named(name) != op {
			t.Errorf("%s is %d; want %d", name, op, code.Named(name))
		}
	}
}
