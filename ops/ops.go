// Package ops numbers the operations, and what the fields of each are, in one
// place for all layers that tell operations apart.
package ops

// The operations. They begin at 1, so that the zero instruction is none.
const (
	Set = iota + 1
	Move
	Add
	Sub
	Mul
	Div
	Less
	Same
	Jump
	Zero
	Spawn
	Sync
	Future
	Touch
	Emit
	Fail
	Ret
)

// Kind is what a field is.
type Kind int

// The kinds.
const (
	Unused   Kind = iota
	Register      // a register's number
	Handle        // a future's number
	Function      // a function's number
	Place         // the instruction to go on at
	Reason        // why a task fails
	Number        // any number
)

// The rows are A, B, C, K.
var fields = [...][4]Kind{
	Set:    {Register, Unused, Unused, Number},
	Move:   {Register, Register, Unused, Unused},
	Add:    {Register, Register, Register, Unused},
	Sub:    {Register, Register, Register, Unused},
	Mul:    {Register, Register, Register, Unused},
	Div:    {Register, Register, Register, Unused},
	Less:   {Register, Register, Register, Unused},
	Same:   {Register, Register, Register, Unused},
	Jump:   {Unused, Unused, Unused, Place},
	Zero:   {Register, Unused, Unused, Place},
	Spawn:  {Register, Register, Function, Unused},
	Sync:   {Unused, Unused, Unused, Unused},
	Future: {Handle, Register, Function, Unused},
	Touch:  {Register, Handle, Unused, Unused},
	Emit:   {Register, Unused, Unused, Unused},
	Fail:   {Unused, Unused, Unused, Reason},
	Ret:    {Register, Unused, Unused, Unused},
}

// Known tells whether there is such an operation.
func Known(op int) bool { return op >= Set && op <= Ret }

// Fields tells what A, B, C and K of an operation are; of none, they are
// unused.
func Fields(op int) [4]Kind {
	if !Known(op) {
		return [4]Kind{}
	}
	return fields[op]
}
