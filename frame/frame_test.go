package frame_test

import (
	"math"
	"reflect"
	"slices"
	"strings"
	"testing"

	"haymow/api"
	"haymow/asm"
	"haymow/code"
	"haymow/eval"
	"haymow/frame"
)

var wide = eval.Limits{Budget: api.MaxBudget, Depth: api.MaxDepth}

// program is that of lines with ; between.
func program(t *testing.T, text string) []code.Func {
	t.Helper()
	p, line, e := asm.Parse(strings.ReplaceAll(text, ";", "\n"))
	if e != api.OK {
		t.Fatalf("%s: line %d: %d", text, line, e)
	}
	return p
}

// same holds nil and an empty list for the same.
func same(a, b frame.Effect) bool {
	return a.Kind == b.Kind && a.Value == b.Value && a.Reg == b.Reg && a.Fn == b.Fn && a.Hand == b.Hand && a.Why == b.Why &&
		slices.Equal(a.Args, b.Args) && slices.Equal(a.Path, b.Path)
}

func sameFrame(a, b frame.Frame) bool {
	return a.Fn == b.Fn && a.At == b.At && a.Steps == b.Steps && a.Kids == b.Kids && slices.Equal(a.Path, b.Path) && a.Regs == b.Regs && a.Hands == b.Hands
}

// twin is a frame that shares nothing with the other one.
func twin(f frame.Frame) frame.Frame {
	f.Path = slices.Clone(f.Path)
	return f
}

// comes does one instruction of a frame, and holds what it comes to, and the
// frame behind it, against what they must be.
func comes(t *testing.T, p []code.Func, l eval.Limits, f frame.Frame, want frame.Effect, behind frame.Frame) {
	t.Helper()
	after := twin(f)
	got, e := frame.Exec(p, l, &after)
	if e != api.OK || !same(got, want) || !sameFrame(after, behind) {
		t.Errorf("%v of %v, %v:\n%v, %d, %v; want\n%v, %v", f, p, l, got, e, after, want, behind)
	}
}

func TestExample(t *testing.T) { // P12.1: example 1
	p := program(t, "func 0; set r1 7; emit r1; ret r1")
	f := frame.New(0, nil, nil, [4]int{})
	for i, want := range []frame.Effect{{Kind: frame.Goes}, {Kind: frame.Tells, Value: 7}, {Kind: frame.Ends, Reg: 1}} {
		if got, e := frame.Exec(p, wide, f); e != api.OK || !same(got, want) {
			t.Errorf("%d: %v, %d", i, got, e)
		}
	}
}

func TestKinds(t *testing.T) {
	kinds := []frame.Kind{frame.Goes, frame.Tells, frame.Begins, frame.Futures, frame.Waits, frame.Touches, frame.Ends, frame.Fails}
	for i, kind := range kinds {
		if kind != frame.Kind(i+1) {
			t.Errorf("%d is %d", i+1, kind)
		}
	}
}

func TestNew(t *testing.T) { // P12.1
	for many := range 12 {
		args := make([]int64, many)
		want := frame.Frame{Fn: 3, Path: []int{4, 0}, Hands: [4]int{5, 0, -1, math.MaxInt}}
		for i := range args {
			if args[i] = math.MaxInt64 - int64(i); i < 8 {
				want.Regs[i] = args[i]
			}
		}
		if f := frame.New(3, []int{4, 0}, args, want.Hands); f == nil || !sameFrame(*f, want) {
			t.Errorf("%d arguments: %v", many, f)
		}
	}
	for _, fn := range []int{0, 15, -1, math.MinInt, math.MaxInt} { // no program is there to hold it against
		if f := frame.New(fn, nil, nil, [4]int{}); f == nil || !sameFrame(*f, frame.Frame{Fn: fn}) {
			t.Errorf("of the function %d: %v", fn, f)
		}
	}
}

func TestNewKeepsNothing(t *testing.T) { // R4
	path, args := []int{1, 2, 3}, []int64{4, 5, 6}
	f, g := frame.New(0, path[:2], args[:2], [4]int{}), frame.New(0, path[:2], args[:2], [4]int{})
	f.Path = append(f.Path, 9)
	f.Path[0], f.Regs[0] = 8, 8
	if !slices.Equal(path, []int{1, 2, 3}) || !slices.Equal(args, []int64{4, 5, 6}) || !slices.Equal(g.Path, []int{1, 2}) {
		t.Errorf("a frame writes into %v, %v, %v", path, args, g.Path)
	}
	path[0], args[0] = 7, 7
	if g.Path[0] != 1 || g.Regs[0] != 4 {
		t.Errorf("a frame hangs on what it was made of: %v", g)
	}
}

// full is a frame at an instruction of function 0, of which each part is some.
func full(at int) frame.Frame {
	return frame.Frame{At: at, Steps: 5, Kids: 3, Path: []int{4, 1}, Regs: [8]int64{0, 7, -2, math.MinInt64, -1, 55, 66, 77}, Hands: [4]int{0, 9, -3, 9}}
}

// one is the program of which the instruction 2 is that of the text: others
// stand ahead and behind, which must not be done with it.
func one(t *testing.T, text string) []code.Func {
	t.Helper()
	return program(t, "func 0; set r0 99; set r1 99;"+text+"; set r2 99; set r4 99; ret r7; func 0; ret r0; func 1; ret r0; func 3; ret r0; func 4; ret r0")
}

func TestPlainOperations(t *testing.T) { // P12.1, R6
	for text, want := range map[string]int64{
		"set r0 -5": -5, "set r0 2147483647": math.MaxInt32, "set r0 -2147483648": math.MinInt32, "move r0 r1": 7,
		"add r0 r1 r2": 5, "sub r0 r1 r2": 9, "mul r0 r1 r2": -14, "add r0 r3 r4": math.MaxInt64, "sub r0 r3 r1": math.MaxInt64 - 6, "mul r0 r3 r2": 0,
		"div r0 r1 r2": -3, "div r0 r3 r4": math.MinInt64, "div r0 r2 r1": 0,
		"less r0 r2 r1": 1, "less r0 r1 r2": 0, "less r0 r1 r1": 0, "same r0 r1 r1": 1, "same r0 r1 r2": 0,
	} {
		behind := full(3)
		behind.Steps, behind.Regs[0] = 6, want
		comes(t, one(t, text), wide, full(2), frame.Effect{Kind: frame.Goes}, behind)
	}
}

func TestJumps(t *testing.T) { // P12.1: at K, if it jumps
	for text, at := range map[string]int{
		"jump 0": 0, "jump 2": 2, "jump 3": 3, "jump 5": 5, "zero r0 0": 0, "zero r0 2": 2, "zero r0 5": 5, "zero r1 5": 3, "zero r2 0": 3, "zero r3 2": 3,
	} {
		behind := full(at)
		behind.Steps = 6
		comes(t, one(t, text), wide, full(2), frame.Effect{Kind: frame.Goes}, behind)
	}
}

func TestOthersThatChangeNothing(t *testing.T) { // P12.1: one more is done, and the frame is at the next one; no register is another
	for text, want := range map[string]frame.Effect{
		"emit r0": {Kind: frame.Tells}, "emit r3": {Kind: frame.Tells, Value: math.MinInt64}, "emit r7": {Kind: frame.Tells, Value: 77},
		"sync":        {Kind: frame.Waits},
		"touch r5 h1": {Kind: frame.Touches, Reg: 5, Hand: 9}, "touch r0 h3": {Kind: frame.Touches, Hand: 9}, "touch r1 h2": {Kind: frame.Touches, Reg: 1, Hand: -3},
		"ret r0": {Kind: frame.Ends}, "ret r6": {Kind: frame.Ends, Reg: 6},
		"touch r5 h0": {Kind: frame.Fails, Why: api.FailTouch}, "div r5 r1 r0": {Kind: frame.Fails, Why: api.FailZero}, "div r0 r0 r0": {Kind: frame.Fails, Why: api.FailZero},
		"fail 16": {Kind: frame.Fails, Why: 16}, "fail 2147483647": {Kind: frame.Fails, Why: math.MaxInt32},
	} {
		behind := full(3)
		behind.Steps = 6
		comes(t, one(t, text), wide, full(2), want, behind)
	}
}

func TestBegins(t *testing.T) { // P12.1: a task that is begun counts among the kids; its future's number is whoever's who drives
	for _, row := range []struct {
		text string
		want frame.Effect
	}{
		{"spawn r6 r2 f3", frame.Effect{Kind: frame.Begins, Reg: 6, Fn: 3, Args: []int64{-2, math.MinInt64, -1}}},
		{"spawn r0 r4 f4", frame.Effect{Kind: frame.Begins, Fn: 4, Args: []int64{-1, 55, 66, 77}}},
		{"spawn r7 r7 f2", frame.Effect{Kind: frame.Begins, Reg: 7, Fn: 2, Args: []int64{77}}},
		{"spawn r1 r7 f1", frame.Effect{Kind: frame.Begins, Reg: 1, Fn: 1}},
		{"spawn r1 r7 f0", frame.Effect{Kind: frame.Begins, Reg: 1}},
		{"future h3 r2 f3", frame.Effect{Kind: frame.Futures, Hand: 3, Fn: 3, Args: []int64{-2, math.MinInt64, -1}}},
		{"future h0 r4 f4", frame.Effect{Kind: frame.Futures, Fn: 4, Args: []int64{-1, 55, 66, 77}}},
		{"future h1 r7 f1", frame.Effect{Kind: frame.Futures, Hand: 1, Fn: 1}},
	} {
		behind := full(3)
		behind.Steps, behind.Kids = 6, 4
		row.want.Path = []int{4, 1, 3}
		comes(t, one(t, row.text), wide, full(2), row.want, behind)
		comes(t, one(t, row.text), eval.Limits{Budget: 6, Depth: 3}, full(2), row.want, behind)
	}
}

func TestKidsAreNumbered(t *testing.T) { // P12.1
	p := program(t, "func 0; spawn r0 r0 f0; set r0 1; future h0 r0 f0; spawn r0 r0 f0; ret r0")
	f := frame.New(0, nil, nil, [4]int{})
	var paths [][]int
	for range 4 {
		if e, _ := frame.Exec(p, wide, f); e.Kind != frame.Goes {
			paths = append(paths, e.Path)
		}
	}
	if !reflect.DeepEqual(paths, [][]int{{0}, {1}, {2}}) || f.Kids != 3 {
		t.Errorf("%v, %d kids", paths, f.Kids)
	}
}

func TestDepth(t *testing.T) { // P12.1: as many numbers as the depth, or more
	for _, text := range []string{"spawn r6 r2 f3", "future h3 r2 f3"} {
		p := one(t, text)
		for _, row := range []struct {
			depth, numbers int
			deep           bool
		}{
			{0, 0, true}, {0, 1, true}, {0, 40, true}, {1, 0, false}, {1, 1, true}, {1, 2, true},
			{30, 29, false}, {30, 30, true}, {30, 31, true}, {30, 1000, true},
		} {
			f := full(2)
			f.Path = make([]int, row.numbers)
			behind := twin(f)
			behind.At, behind.Steps = 3, 6
			l := eval.Limits{Budget: 6, Depth: row.depth}
			if row.deep {
				comes(t, p, l, f, frame.Effect{Kind: frame.Fails, Why: api.FailDepth}, behind)
				continue
			}
			if e, errno := frame.Exec(p, l, &f); errno != api.OK || e.Kind == frame.Fails || len(e.Path) != row.numbers+1 {
				t.Errorf("%s, %v: %v, %d", text, row, e, errno)
			}
		}
	}
}

func TestBudget(t *testing.T) { // P12.1: the frame stays
	for _, text := range []string{"set r0 5", "jump 0", "spawn r0 r0 f1", "future h0 r0 f1", "sync", "touch r0 h0", "emit r0", "div r0 r0 r0", "fail 16", "ret r0"} {
		p := one(t, text)
		for _, row := range []struct{ budget, steps int }{{1, 1}, {1, 2}, {5, 5}, {10000, 10000}, {10000, math.MaxInt}, {1, math.MaxInt}} {
			f := full(2)
			f.Steps = row.steps
			comes(t, p, eval.Limits{Budget: row.budget}, f, frame.Effect{Kind: frame.Fails, Why: api.FailBudget}, f)
		}
		for _, row := range []struct{ budget, steps int }{{1, 0}, {5, 4}, {10000, 9999}, {1, -1}, {1, math.MinInt}} {
			f := full(2)
			f.Steps = row.steps
			if e, errno := frame.Exec(p, eval.Limits{Budget: row.budget}, &f); errno != api.OK || e.Why == api.FailBudget || f.Steps != row.steps+1 {
				t.Errorf("%s: %d of %d: %v, %d, %d steps", text, row.steps, row.budget, e, errno, f.Steps)
			}
		}
	}
}

// refused holds one that is an error against P12.1 and R2: nothing is told, and
// the frame stays.
func refused(t *testing.T, p []code.Func, l eval.Limits, f *frame.Frame, want api.Errno) {
	t.Helper()
	var was frame.Frame
	if f != nil {
		was = twin(*f)
	}
	got, e := frame.Exec(p, l, f)
	if e != want || !same(got, frame.Effect{}) || f != nil && !sameFrame(*f, was) {
		t.Errorf("%v of %v, %v: %v, %d; want %d", f, p, l, got, e, want)
	}
}

func TestWhatMayNotRun(t *testing.T) { // P12.1, R2: ahead of what is wrong with the frame
	none := program(t, "func 0; ret r0")
	for _, row := range []struct {
		p []code.Func
		l eval.Limits
	}{
		{nil, wide}, {[]code.Func{}, wide}, {[]code.Func{{}}, wide}, {program(t, "func 0; ret r8"), wide}, {program(t, "func 0; ret r0; func 0; sync"), wide}, {program(t, "func 5; ret r0"), wide},
		{[]code.Func{{Arity: -1, Code: none[0].Code}}, wide}, {[]code.Func{{Arity: math.MaxInt, Code: none[0].Code}}, wide}, {[]code.Func{{Arity: math.MinInt, Code: none[0].Code}}, wide},
		{[]code.Func{none[0], {Arity: 5, Code: none[0].Code}}, wide}, {slices.Repeat(none, 17), wide},
		{none, eval.Limits{}}, {none, eval.Limits{Budget: -1}}, {none, eval.Limits{Budget: 10001}}, {none, eval.Limits{Budget: math.MaxInt}}, {none, eval.Limits{Budget: math.MinInt}},
		{none, eval.Limits{Budget: 1, Depth: -1}}, {none, eval.Limits{Budget: 1, Depth: 31}}, {none, eval.Limits{Budget: 1, Depth: math.MaxInt}}, {none, eval.Limits{Budget: 1, Depth: math.MinInt}},
	} {
		refused(t, row.p, row.l, nil, api.ErrArg)
		refused(t, row.p, row.l, &frame.Frame{}, api.ErrArg)
		refused(t, row.p, row.l, &frame.Frame{Fn: -1}, api.ErrArg)
		refused(t, row.p, row.l, &frame.Frame{Steps: 20000}, api.ErrArg)
	}
	for arity := range 5 { // how many arguments the first function takes does not matter
		p := []code.Func{{Arity: arity, Code: none[0].Code}}
		for _, l := range []eval.Limits{wide, {Budget: 1}} {
			comes(t, p, l, frame.Frame{}, frame.Effect{Kind: frame.Ends}, frame.Frame{At: 1, Steps: 1})
		}
	}
}

func TestWhatIsNotThere(t *testing.T) { // P12.1: ErrState
	p := program(t, "func 0; set r0 1; ret r0; func 4; ret r0")
	least := eval.Limits{Budget: 1}
	refused(t, p, wide, nil, api.ErrState)
	for _, place := range [][2]int{
		{-1, 0}, {2, 0}, {math.MinInt, 0}, {math.MaxInt, 0}, {0, -1}, {0, 2}, {1, 1}, {1, -1}, {0, math.MaxInt}, {1, math.MinInt}, {2, 2}, {16, 0}, {0, 64},
	} {
		refused(t, p, wide, &frame.Frame{Fn: place[0], At: place[1], Path: []int{1}, Kids: 2}, api.ErrState)
		refused(t, p, least, &frame.Frame{Fn: place[0], At: place[1], Steps: 5}, api.ErrState) // also where the budget is spent
	}
	for _, place := range [][2]int{{0, 0}, {0, 1}, {1, 0}} {
		if _, e := frame.Exec(p, wide, &frame.Frame{Fn: place[0], At: place[1]}); e != api.OK {
			t.Errorf("at %v: %d", place, e)
		}
	}
}

func TestBehindTheLastOne(t *testing.T) { // P12.1: a frame that has ended is at no instruction, if its function ends there
	for _, text := range []string{"func 0; ret r0", "func 0; fail 16"} {
		p, f := program(t, text), &frame.Frame{}
		if _, e := frame.Exec(p, wide, f); e != api.OK || f.At != 1 {
			t.Errorf("%s: %d, at %d", text, e, f.At)
		}
		refused(t, p, wide, f, api.ErrState)
	}
}

func TestEffectsAreNew(t *testing.T) { // R4
	p := program(t, "func 0; spawn r0 r0 f1; spawn r0 r0 f1; future h0 r0 f1; ret r0; func 2; ret r0")
	room := []int{4, 1, 88, 88}
	f := &frame.Frame{Path: room[:2], Regs: [8]int64{5, 6}}
	var effects []frame.Effect
	for range 3 {
		e, _ := frame.Exec(p, wide, f)
		effects = append(effects, e)
	}
	for i, e := range effects {
		if !slices.Equal(e.Path, []int{4, 1, i}) || !slices.Equal(e.Args, []int64{5, 6}) {
			t.Errorf("%d: %v", i, e)
		}
		for k := range e.Path[:cap(e.Path)] {
			e.Path[:cap(e.Path)][k] = -1
		}
		for k := range e.Args[:cap(e.Args)] {
			e.Args[:cap(e.Args)][k] = -1
		}
	}
	if !slices.Equal(room, []int{4, 1, 88, 88}) || f.Regs != [8]int64{5, 6} || !slices.Equal(f.Path, room[:2]) {
		t.Errorf("an effect shares memory with its frame: %v, %v", room, f)
	}
}
