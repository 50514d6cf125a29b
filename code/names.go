package code

import "haymow/ops"

var names = [...]string{
	ops.Set:    "set",
	ops.Move:   "move",
	ops.Add:    "add",
	ops.Sub:    "sub",
	ops.Mul:    "mul",
	ops.Div:    "div",
	ops.Less:   "less",
	ops.Same:   "same",
	ops.Jump:   "jump",
	ops.Zero:   "zero",
	ops.Spawn:  "spawn",
	ops.Sync:   "sync",
	ops.Future: "future",
	ops.Touch:  "touch",
	ops.Emit:   "emit",
	ops.Fail:   "fail",
	ops.Ret:    "ret",
}

// Name tells an operation's name.
func Name(op int) string {
	if !ops.Known(op) {
		return ""
	}
	return names[op]
}

// Named tells a name's operation.
func Named(name string) int {
	for op := ops.Set; op <= ops.Ret; op++ {
		if names[op] == name {
			return op
		}
	}
	return 0
}
