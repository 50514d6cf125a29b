// Package plain says what the operations do that need nothing but what their
// task has itself, in one place for all layers that run tasks.
package plain

import (
	"haymow/api"
	"haymow/code"
	"haymow/ops"
)

// State is at which instruction a task goes on, and its registers. A task
// embeds it.
type State struct {
	At   int
	Regs [api.Regs]int64
}

// Operations are those that always can be done, by their numbers.
func Operations() map[int]func(*State, code.Instr) {
	return map[int]func(*State, code.Instr){
		ops.Set:  (*State).Set,
		ops.Move: (*State).Move,
		ops.Add:  (*State).Add,
		ops.Sub:  (*State).Sub,
		ops.Mul:  (*State).Mul,
		ops.Less: (*State).Less,
		ops.Same: (*State).Same,
		ops.Jump: (*State).Jump,
		ops.Zero: (*State).Zero,
	}
}

// Set is the operation of that name; so are those below.
func (s *State) Set(in code.Instr)  { s.Regs[in.A] = int64(in.K) }
func (s *State) Move(in code.Instr) { s.Regs[in.A] = s.Regs[in.B] }
func (s *State) Add(in code.Instr)  { s.Regs[in.A] = s.Regs[in.B] + s.Regs[in.C] }
func (s *State) Sub(in code.Instr)  { s.Regs[in.A] = s.Regs[in.B] - s.Regs[in.C] }
func (s *State) Mul(in code.Instr)  { s.Regs[in.A] = s.Regs[in.B] * s.Regs[in.C] }
func (s *State) Less(in code.Instr) { s.Regs[in.A] = number(s.Regs[in.B] < s.Regs[in.C]) }
func (s *State) Same(in code.Instr) { s.Regs[in.A] = number(s.Regs[in.B] == s.Regs[in.C]) }
func (s *State) Jump(in code.Instr) { s.At = in.K }

// Zero jumps, if its register is 0.
func (s *State) Zero(in code.Instr) {
	if s.Regs[in.A] == 0 {
		s.At = in.K
	}
}

// Div divides, and tells whether it could: how a task fails, each layer says
// for itself.
func (s *State) Div(in code.Instr) bool {
	if s.Regs[in.C] == 0 {
		return false
	}
	s.Regs[in.A] = s.Regs[in.B] / s.Regs[in.C]
	return true
}

func number(holds bool) int64 {
	if holds {
		return 1
	}
	return 0
}
