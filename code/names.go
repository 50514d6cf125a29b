package code

// The operations. They begin at 1, so that the zero instruction is none.
const (
	opSet = iota + 1
	opMove
	opAdd
	opSub
	opMul
	opDiv
	opLess
	opSame
	opJump
	opZero
	opSpawn
	opSync
	opFuture
	opTouch
	opEmit
	opFail
	opRet
)

var names = [...]string{
	opSet:    "set",
	opMove:   "move",
	opAdd:    "add",
	opSub:    "sub",
	opMul:    "mul",
	opDiv:    "div",
	opLess:   "less",
	opSame:   "same",
	opJump:   "jump",
	opZero:   "zero",
	opSpawn:  "spawn",
	opSync:   "sync",
	opFuture: "future",
	opTouch:  "touch",
	opEmit:   "emit",
	opFail:   "fail",
	opRet:    "ret",
}

// Name tells an operation's name.
func Name(op int) string {
	if op < opSet || op > opRet {
		return ""
	}
	return names[op]
}

// Named tells a name's operation.
func Named(name string) int {
	for op := opSet; op <= opRet; op++ {
		if names[op] == name {
			return op
		}
	}
	return 0
}
