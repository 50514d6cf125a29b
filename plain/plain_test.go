package plain_test

import (
	"math"
	"testing"

	"haymow/api"
	"haymow/code"
	"haymow/plain"
)

const least, greatest = math.MinInt64, math.MaxInt64

func TestNumbers(t *testing.T) { // R6
	rows := []struct {
		name              string
		do                func(*plain.State, code.Instr)
		left, right, want int64
	}{
		{"move", (*plain.State).Move, -4, 9, -4},
		{"add", (*plain.State).Add, 2, 3, 5}, {"add", (*plain.State).Add, greatest, 1, least},
		{"sub", (*plain.State).Sub, 2, 3, -1}, {"sub", (*plain.State).Sub, least, 1, greatest},
		{"mul", (*plain.State).Mul, -2, 3, -6}, {"mul", (*plain.State).Mul, greatest, 2, -2}, {"mul", (*plain.State).Mul, least, -1, least},
		{"less", (*plain.State).Less, 2, 3, 1}, {"less", (*plain.State).Less, 3, 3, 0}, {"less", (*plain.State).Less, 4, 3, 0}, {"less", (*plain.State).Less, least, greatest, 1},
		{"same", (*plain.State).Same, 2, 3, 0}, {"same", (*plain.State).Same, 3, 3, 1}, {"same", (*plain.State).Same, 4, 3, 0},
	}
	for _, row := range rows {
		s := plain.State{At: 5, Regs: [api.Regs]int64{1: row.left, 2: row.right, 3: 77}}
		row.do(&s, code.Instr{A: 3, B: 1, C: 2})
		if want := (plain.State{At: 5, Regs: [api.Regs]int64{1: row.left, 2: row.right, 3: row.want}}); s != want {
			t.Errorf("%s of %d and %d: %v", row.name, row.left, row.right, s)
		}
	}
}

func TestOperations(t *testing.T) { // each by its number
	in := code.Instr{A: 3, B: 1, C: 2, K: 6}
	rows := map[string]plain.State{}
	for name, changed := range map[string][2]int64{ // the place, and the register 3
		"set": {5, 6}, "move": {5, -7}, "add": {5, -5}, "sub": {5, -9}, "mul": {5, -14}, "less": {5, 1}, "same": {5, 0}, "jump": {6, 0}, "zero": {6, 0},
	} {
		rows[name] = plain.State{At: int(changed[0]), Regs: [api.Regs]int64{1: -7, 2: 2, 3: changed[1]}}
	}
	does := plain.Operations()
	for name, want := range rows {
		s := plain.State{At: 5, Regs: [api.Regs]int64{1: -7, 2: 2}}
		do, ok := does[code.Named(name)]
		if !ok {
			t.Errorf("%s is not there", name)
		} else if do(&s, in); s != want {
			t.Errorf("%s: %v; want %v", name, s, want)
		}
	}
	if len(does) != len(rows) {
		t.Errorf("%d operations", len(does))
	}
}

func TestSet(t *testing.T) {
	for _, k := range []int{0, 1, -1, math.MaxInt32, math.MinInt32} {
		s := plain.State{At: 2}
		s.Set(code.Instr{A: 7, K: k})
		if s != (plain.State{At: 2, Regs: [api.Regs]int64{7: int64(k)}}) {
			t.Errorf("%d: %v", k, s)
		}
	}
}

func TestDiv(t *testing.T) { // cut towards 0
	for _, row := range [][3]int64{{7, 2, 3}, {-7, 2, -3}, {7, -2, -3}, {-7, -2, 3}, {1, 2, 0}, {0, 5, 0}, {least, -1, least}} {
		s := plain.State{At: 1, Regs: [api.Regs]int64{1: row[0], 2: row[1]}}
		could := s.Div(code.Instr{A: 0, B: 1, C: 2})
		if !could || s != (plain.State{At: 1, Regs: [api.Regs]int64{row[2], row[0], row[1]}}) {
			t.Errorf("%d by %d: %v, %t", row[0], row[1], s, could)
		}
	}
	s := plain.State{At: 1, Regs: [api.Regs]int64{5, 6}}
	if s.Div(code.Instr{A: 0, B: 1, C: 2}) || s != (plain.State{At: 1, Regs: [api.Regs]int64{5, 6}}) {
		t.Errorf("by 0: %v", s)
	}
}

func TestJumps(t *testing.T) {
	s := plain.State{At: 3, Regs: [api.Regs]int64{1: -1}}
	for _, row := range []struct {
		do   func(*plain.State, code.Instr)
		in   code.Instr
		want int
	}{
		{(*plain.State).Jump, code.Instr{K: 9}, 9},
		{(*plain.State).Zero, code.Instr{A: 1, K: 4}, 9},
		{(*plain.State).Zero, code.Instr{A: 0, K: 4}, 4},
		{(*plain.State).Jump, code.Instr{K: 0}, 0},
	} {
		row.do(&s, row.in)
		if s != (plain.State{At: row.want, Regs: [api.Regs]int64{1: -1}}) {
			t.Errorf("%v: %v", row.in, s)
		}
	}
}
