package eval_test

import (
	"math"
	"slices"
	"strings"
	"testing"

	"haymow/api"
	"haymow/asm"
	"haymow/code"
	"haymow/eval"
	"haymow/path"
)

const enough = 1 << 20

var wide = eval.Limits{Budget: api.MaxBudget, Depth: api.MaxDepth}

// program is that of lines with ; between.
func program(t *testing.T, text string) []code.Func {
	t.Helper()
	p, line, e := asm.Parse(strings.ReplaceAll(text, ";", "\n"))
	if e != api.OK {
		t.Fatalf("%s: line %d: %d", text, line, e)
	}
	return p
}

// same holds nil and an empty list for the same.
func same(a, b eval.Result) bool {
	return a.Value == b.Value && a.Fail == b.Fail && slices.Equal(a.Told, b.Told) &&
		slices.EqualFunc(a.Log, b.Log, func(x, y eval.Entry) bool { return slices.Equal(x.Path, y.Path) && x.Steps == y.Steps })
}

// log is that of texts, each a path and its steps.
func log(entries ...any) (l []eval.Entry) {
	for i := 0; i < len(entries); i += 2 {
		p, _ := path.Read(entries[i].(string))
		l = append(l, eval.Entry{Path: p, Steps: entries[i+1].(int)})
	}
	return l
}

func comes(t *testing.T, text string, args []int64, l eval.Limits, want eval.Result) {
	t.Helper()
	if got, e := eval.Eval(program(t, text), args, l, enough); e != api.OK || !same(got, want) {
		t.Errorf("%s\nof %v, %v:\n%v, %d; want\n%v", text, args, l, got, e, want)
	}
}

func TestExample(t *testing.T) { // P6.1
	comes(t, "func 0; set r1 7; emit r1; ret r1", nil, wide, eval.Result{Value: 7, Told: []int64{7}, Log: log(".", 3)})
}

func TestRight(t *testing.T) { // P6.1
	none, two := program(t, "func 0; ret r0"), program(t, "func 2; ret r0; func 0; ret r0")
	args := func(n int) []int64 { return make([]int64, n) }
	limits := func(budget, depth int) eval.Limits { return eval.Limits{Budget: budget, Depth: depth} }
	rows := []struct {
		p    []code.Func
		args []int64
		l    eval.Limits
		want bool
	}{
		{none, nil, limits(1, 0), true}, {none, args(0), limits(10000, 30), true}, {two, args(2), limits(1, 30), true},
		{none, args(1), wide, false}, {two, nil, wide, false}, {two, args(1), wide, false}, {two, args(3), wide, false},
		{none, nil, limits(0, 0), false}, {none, nil, limits(-1, 0), false}, {none, nil, limits(10001, 0), false}, {none, nil, limits(math.MaxInt, 0), false}, {none, nil, limits(math.MinInt, 0), false},
		{none, nil, limits(1, -1), false}, {none, nil, limits(1, 31), false}, {none, nil, limits(1, math.MaxInt), false}, {none, nil, limits(1, math.MinInt), false},
		{nil, nil, wide, false}, {[]code.Func{}, nil, wide, false}, {[]code.Func{{}}, nil, wide, false}, {program(t, "func 0; ret r8"), nil, wide, false},
		{program(t, "func 0; ret r0; func 0; set r0 1"), nil, wide, false}, {program(t, "func 5; ret r0"), args(5), wide, false},
	}
	for i, row := range rows {
		if got := eval.Right(row.p, row.args, row.l); got != row.want {
			t.Errorf("%d: Right: %t", i, got)
		}
		r, e := eval.Eval(row.p, row.args, row.l, enough)
		if row.want != (e == api.OK) || !row.want && (e != api.ErrArg || !same(r, eval.Result{})) {
			t.Errorf("%d: Eval: %v, %d", i, r, e)
		}
		if _, e := eval.Eval(row.p, row.args, row.l, 0); row.want && e != api.ErrLong || !row.want && e != api.ErrArg { // R2
			t.Errorf("%d: Eval of none: %d", i, e)
		}
	}
}

func TestArgumentsAreTheFirstRegisters(t *testing.T) { // P6.1
	comes(t, "func 4; emit r0; emit r1; emit r2; emit r3; emit r4; emit r5; emit r6; emit r7; ret r3", []int64{math.MinInt64, -1, 8, math.MaxInt64}, wide,
		eval.Result{Value: math.MaxInt64, Told: []int64{math.MinInt64, -1, 8, math.MaxInt64, 0, 0, 0, 0}, Log: log(".", 9)})
	comes(t, "func 4; spawn r0 r4 f1; set r6 66; set r7 77; spawn r0 r4 f1; ret r0; func 4; emit r0; emit r1; emit r2; emit r3; emit r4; emit r6; ret r2", []int64{1, 2, 3, 4}, wide,
		eval.Result{Value: 66, Told: []int64{0, 0, 0, 0, 0, 0, 0, 0, 66, 77, 0, 0}, Log: log(".", 5, "0", 7, "1", 7)})
	comes(t, "func 3; future h0 r1 f1; ret r0; func 2; emit r0; emit r1; emit r2; ret r2", []int64{1, 2, 3}, wide,
		eval.Result{Value: 1, Told: []int64{2, 3, 0}, Log: log(".", 2, "0", 4)})
}

func TestOperations(t *testing.T) { // P6.1, R6
	for text, want := range map[string]int64{
		"set r0 -5": -5, "set r0 2147483647": math.MaxInt32, "move r0 r1": 7, "add r0 r1 r2": 5, "sub r0 r1 r2": 9, "mul r0 r1 r2": -14,
		"div r0 r1 r2": -3, "div r0 r3 r4": math.MinInt64, "add r0 r3 r4": math.MaxInt64, "sub r0 r3 r1": math.MaxInt64 - 6, "mul r0 r3 r2": 0,
		"less r0 r2 r1": 1, "less r0 r1 r2": 0, "less r0 r1 r1": 0, "same r0 r1 r1": 1, "same r0 r1 r2": 0,
		"jump 3; set r0 5": 0, "zero r0 3; set r0 5": 0, "zero r1 3; set r0 5": 5, "jump 3; ret r1; set r0 5; jump 5": 5, "jump 4; set r0 5; ret r0; zero r0 2": 5,
	} {
		// The registers are 0, 7, -2, the least number, -1.
		p := program(t, "func 4; set r4 -1; "+text+"; ret r0")
		if r, e := eval.Eval(p, []int64{0, 7, -2, math.MinInt64}, wide, enough); e != api.OK || r.Fail != 0 || r.Value != want {
			t.Errorf("%s: %v, %d; want %d", text, r, e, want)
		}
	}
}

func TestSpawnsAreStoredBehindTheNextSync(t *testing.T) { // P6.1
	const echo = "; func 1; ret r0"
	comes(t, "func 1; spawn r1 r0 f1; emit r1; sync; emit r1; ret r1"+echo, []int64{5}, wide, eval.Result{Value: 5, Told: []int64{0, 5}, Log: log(".", 5, "0", 1)})
	comes(t, "func 1; spawn r1 r0 f1; set r1 9; ret r1"+echo, []int64{5}, wide, eval.Result{Value: 5, Log: log(".", 3, "0", 1)})
	comes(t, "func 2; spawn r2 r0 f1; spawn r2 r1 f1; spawn r3 r2 f1; sync; emit r2; emit r3; ret r2"+echo, []int64{5, 6}, wide, eval.Result{Value: 6, Told: []int64{6, 0}, Log: log(".", 7, "0", 1, "1", 1, "2", 1)})
	comes(t, "func 2; spawn r2 r1 f1; spawn r2 r0 f1; sync; ret r2"+echo, []int64{5, 6}, wide, eval.Result{Value: 5, Log: log(".", 4, "0", 1, "1", 1)})
	// What a sync has stored, the next one does not store again.
	comes(t, "func 1; spawn r1 r0 f1; sync; set r1 9; sync; emit r1; ret r1"+echo, []int64{5}, wide, eval.Result{Value: 9, Told: []int64{9}, Log: log(".", 6, "0", 1)})
	comes(t, "func 0; sync; sync; ret r7", nil, wide, eval.Result{Log: log(".", 3)})
}

func TestFuturesAreThoseOfThatMoment(t *testing.T) { // P6.1
	const ends = "; func 1; ret r0; func 0; touch r5 h1; emit r5; ret r5"
	// A later future of the same place is another one, for those who begin behind it.
	comes(t, "func 2; future h1 r0 f1; spawn r7 r0 f2; future h1 r1 f1; spawn r7 r0 f2; touch r2 h1; ret r2"+ends, []int64{5, 6}, wide,
		eval.Result{Value: 6, Told: []int64{5, 6}, Log: log(".", 6, "0", 1, "1", 3, "2", 1, "3", 3)})
	// A future's task does not know its own future, but the one that stood there ahead.
	comes(t, "func 1; future h1 r0 f2; ret r0"+ends, []int64{5}, wide, eval.Result{Fail: api.FailTouch, Log: log(".", 1, "0", 1)})
	comes(t, "func 1; future h1 r0 f1; future h1 r0 f2; touch r0 h1; ret r0"+ends, []int64{5}, wide, eval.Result{Value: 5, Told: []int64{5}, Log: log(".", 4, "0", 1, "1", 3)})
	// What a task below does with its futures is its own.
	comes(t, "func 1; spawn r7 r0 f1; touch r0 h1; ret r0; func 1; future h1 r0 f2; touch r0 h1; emit r0; ret r0; func 1; ret r0", []int64{5}, wide,
		eval.Result{Fail: api.FailTouch, Told: []int64{5}, Log: log(".", 2, "0", 4, "0.0", 1)})
	// A future of the value 0 is one; a place that no future has is none.
	comes(t, "func 1; set r1 3; future h1 r0 f1; touch r1 h1; ret r1"+ends, []int64{0}, wide, eval.Result{Log: log(".", 4, "0", 1)})
	comes(t, "func 1; future h1 r0 f1; touch r1 h0; ret r1"+ends, []int64{5}, wide, eval.Result{Fail: api.FailTouch, Log: log(".", 2, "0", 1)})
}

func TestFailures(t *testing.T) { // P6.1: what was told stays, and each task that was begun
	for text, why := range map[string]int{
		"div r0 r0 r1": api.FailZero, "touch r0 h3": api.FailTouch, "fail 16": 16, "fail 2147483647": math.MaxInt32,
	} {
		comes(t, "func 0; set r0 4; emit r0; "+text+"; emit r0; ret r0", nil, wide, eval.Result{Fail: why, Told: []int64{4}, Log: log(".", 3)})
		for _, begins := range []string{"spawn r1 r0 f1", "future h3 r0 f1"} {
			comes(t, "func 0; set r0 4; emit r0; "+begins+"; emit r0; sync; ret r0; func 0; set r0 3; emit r0; "+text+"; emit r0; ret r0", nil, wide,
				eval.Result{Fail: why, Told: []int64{4, 3}, Log: log(".", 3, "0", 3)})
		}
	}
	comes(t, "func 0; spawn r0 r0 f1; spawn r0 r0 f2; fail 20; func 0; ret r0; func 0; spawn r0 r0 f1; spawn r0 r0 f3; fail 21; func 0; fail 22", nil, wide,
		eval.Result{Fail: 22, Log: log(".", 2, "0", 1, "1", 2, "1.0", 1, "1.1", 1)})
}

func TestBudget(t *testing.T) { // P6.1: of a task, not of all
	three := "func 1; emit r0; emit r0; ret r0"
	comes(t, three, []int64{5}, eval.Limits{Budget: 3}, eval.Result{Value: 5, Told: []int64{5, 5}, Log: log(".", 3)})
	comes(t, three, []int64{5}, eval.Limits{Budget: 2}, eval.Result{Fail: api.FailBudget, Told: []int64{5, 5}, Log: log(".", 2)})
	comes(t, three, []int64{5}, eval.Limits{Budget: 1}, eval.Result{Fail: api.FailBudget, Told: []int64{5}, Log: log(".", 1)})
	kids := "func 1; spawn r1 r0 f1; spawn r1 r0 f1; ret r1; " + three
	comes(t, kids, []int64{5}, eval.Limits{Budget: 3, Depth: 1}, eval.Result{Value: 5, Told: []int64{5, 5, 5, 5}, Log: log(".", 3, "0", 3, "1", 3)})
	comes(t, kids, []int64{5}, eval.Limits{Budget: 2, Depth: 1}, eval.Result{Fail: api.FailBudget, Told: []int64{5, 5}, Log: log(".", 1, "0", 2)})
	// The last instruction that the budget lets a task do may fail in its own way.
	comes(t, "func 0; fail 16", nil, eval.Limits{Budget: 1}, eval.Result{Fail: 16, Log: log(".", 1)})
	comes(t, "func 0; jump 0", nil, wide, eval.Result{Fail: api.FailBudget, Log: log(".", api.MaxBudget)})
}

func TestDepth(t *testing.T) { // P6.1
	const down = "func 1; set r1 1; add r0 r0 r1; emit r0; zero r0 7; spawn r2 r0 f0; sync; ret r2; ret r0"
	row := func(n int) (entries []eval.Entry, told []int64) {
		for i := range n {
			entries, told = append(entries, eval.Entry{Path: make([]int, i), Steps: 5}), append(told, int64(i-api.MaxDepth))
		}
		return entries, told
	}
	for _, depth := range []int{0, 1, 2, api.MaxDepth - 1} {
		entries, told := row(depth + 1)
		comes(t, down, []int64{-api.MaxDepth - 1}, eval.Limits{Budget: 9, Depth: depth}, eval.Result{Fail: api.FailDepth, Told: told, Log: entries})
	}
	entries, told := row(api.MaxDepth + 1)
	for i := range entries {
		entries[i].Steps = 7
	}
	entries[api.MaxDepth].Steps = 5
	comes(t, down, []int64{-api.MaxDepth - 1}, eval.Limits{Budget: 9, Depth: api.MaxDepth}, eval.Result{Told: told, Log: entries})
	comes(t, "func 0; future h0 r0 f1; ret r0; func 0; ret r0", nil, eval.Limits{Budget: 9}, eval.Result{Fail: api.FailDepth, Log: log(".", 1)})
	comes(t, "func 0; future h0 r0 f1; ret r0; func 0; ret r0", nil, eval.Limits{Budget: 9, Depth: 1}, eval.Result{Log: log(".", 2, "0", 1)})
}

func TestTooMany(t *testing.T) { // P6.1: as many as most may be done, in all
	for _, row := range []struct {
		text string
		l    eval.Limits
		many int
	}{
		{"func 0; ret r0", wide, 1},
		{"func 0; emit r0; spawn r0 r0 f1; spawn r0 r0 f1; ret r0; func 0; emit r0; ret r0", wide, 8},
		{"func 0; emit r0; spawn r0 r0 f1; ret r0; func 0; emit r0; fail 16", wide, 4},
		{"func 0; jump 0", eval.Limits{Budget: 5}, 5},
	} {
		p := program(t, row.text)
		for most, want := range map[int]api.Errno{
			math.MinInt: api.ErrLong, -1: api.ErrLong, 0: api.ErrLong, row.many - 1: api.ErrLong,
			row.many: api.OK, row.many + 1: api.OK, math.MaxInt: api.OK,
		} {
			r, e := eval.Eval(p, nil, row.l, most)
			if e != want || e != api.OK && !same(r, eval.Result{}) {
				t.Errorf("%s, %d: %v, %d", row.text, most, r, e)
			}
		}
	}
}
