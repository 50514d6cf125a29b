package graph_test

import (
	"math"
	"slices"
	"strconv"
	"strings"
	"testing"

	"haymow/api"
	"haymow/asm"
	"haymow/code"
	"haymow/eval"
	"haymow/graph"
)

const enough = 1 << 20

var wide = eval.Limits{Budget: api.MaxBudget, Depth: api.MaxDepth}

// program is that of lines with ; between.
func program(t *testing.T, text string) []code.Func {
	t.Helper()
	p, line, e := asm.Parse(strings.ReplaceAll(text, ";", "\n"))
	if e != api.OK {
		t.Fatalf("%s: line %d: %d", text, line, e)
	}
	return p
}

// told is a graph's text: what each step is behind, | between the steps.
func told(g graph.Graph) string {
	rows := make([]string, len(g.Behind))
	for i, row := range g.Behind {
		words := make([]string, len(row))
		for k, step := range row {
			words[k] = strconv.Itoa(step)
		}
		rows[i] = strings.Join(words, " ")
	}
	return strings.Join(rows, "|")
}

func built(t *testing.T, text string, l eval.Limits) graph.Graph {
	t.Helper()
	g, e := graph.Build(program(t, text), nil, l, enough)
	if e != api.OK {
		t.Fatalf("%s: %d", text, e)
	}
	return g
}

func comes(t *testing.T, text string, l eval.Limits, want string) {
	t.Helper()
	if got := told(built(t, text, l)); got != want {
		t.Errorf("%s\n%s; want\n%s", text, got, want)
	}
}

func TestExample(t *testing.T) { // P14.1: example 1
	const text = "func 0; spawn r0 r0 f1; sync; ret r0; func 0; ret r0"
	comes(t, text, wide, "|0|0 1|2")
	if g := built(t, text, wide); graph.Work(g) != 4 || graph.Span(g) != 4 {
		t.Errorf("%d steps, span %d", graph.Work(g), graph.Span(g))
	}
}

func TestOneTask(t *testing.T) { // P14.1: a step is behind the one ahead, where jumps lead, too
	comes(t, "func 0; ret r0", wide, "")
	comes(t, "func 0; set r1 7; emit r1; sync; ret r1", wide, "|0|1|2")
	comes(t, "func 0; set r1 1; zero r1 0; zero r0 4; emit r0; ret r0", wide, "|0|1|2")
	comes(t, "func 0; jump 2; emit r0; fail 16", wide, "|0")
	comes(t, "func 0; emit r0; div r0 r0 r0; ret r0", wide, "|0")
	comes(t, "func 0; emit r0; touch r0 h0; ret r0", wide, "|0")
	comes(t, "func 0; jump 0", eval.Limits{Budget: 4}, "|0|1|2")
}

func TestSpawn(t *testing.T) { // P14.1
	const tail = "; func 0; emit r0; ret r0"
	comes(t, "func 0; spawn r1 r0 f1; emit r0; spawn r1 r0 f1; emit r0; sync; ret r1"+tail, wide, "|0|1|0|3|4|5|4|2 6 7|8")
	comes(t, "func 0; spawn r1 r0 f1; emit r0; spawn r1 r0 f1; ret r1"+tail, wide, "|0|1|0|3|4|5|2 4 6")
	comes(t, "func 0; spawn r1 r0 f1; spawn r1 r0 f1; fail 16"+tail, wide, "|0|1|0|3|4|3")
}

func TestSyncLooksBackToTheLastOne(t *testing.T) { // P14.1
	const tail = "; func 0; ret r0"
	comes(t, "func 0; spawn r1 r0 f1; sync; spawn r1 r0 f1; sync; sync; ret r1"+tail, wide, "|0|0 1|2|3|3 4|5|6")
	comes(t, "func 0; spawn r1 r0 f1; sync; spawn r1 r0 f1; future h0 r0 f1; ret r1"+tail, wide, "|0|0 1|2|3|3|5|4 5 6")
	// A kid's kids are its own, also where it does not wait for them.
	comes(t, "func 0; spawn r1 r0 f1; sync; ret r1; func 0; spawn r1 r0 f2; fail 16; func 0; ret r0", wide, "|0|1|1|0 3")
	comes(t, "func 0; spawn r1 r0 f1; sync; ret r1; func 0; spawn r1 r0 f2; ret r0; func 0; ret r0", wide, "|0|1|1 2|0 3|4")
}

func TestFuture(t *testing.T) { // P14.1
	const tail = "; func 0; set r0 5; ret r0; func 0; touch r1 h0; ret r1; func 0; fail 16"
	comes(t, "func 0; future h0 r0 f1; emit r0; touch r0 h0; emit r0; ret r0"+tail, wide, "|0|1|0|2 3|4|2 5")
	// A sync and a ret wait for a future's task, too, touched or not.
	comes(t, "func 0; future h0 r0 f1; sync; ret r0"+tail, wide, "|0|1|0 2|3")
	comes(t, "func 0; future h0 r0 f1; ret r0"+tail, wide, "|0|1|0 2")
	// Behind a sync it is touched once more; another task touches it with its first instruction.
	comes(t, "func 0; future h0 r0 f1; sync; touch r0 h0; spawn r0 r0 f2; ret r0"+tail, wide, "|0|1|0 2|2 3|4|2 5|6|5 7")
	comes(t, "func 0; future h0 r0 f1; future h1 r0 f2; touch r0 h1; ret r0"+tail, wide, "|0|1|0|2 3|4|3 5|2 5 6")
	// A later future of the same place is the one that is touched; one of no task waits for none.
	comes(t, "func 0; future h0 r0 f1; future h0 r0 f1; touch r0 h0; fail 16"+tail, wide, "|0|1|0|3|4|3 5|6")
	comes(t, "func 0; future h0 r0 f1; touch r0 h1; ret r0"+tail, wide, "|0|1|0")
	// A future's task does not know its own one.
	comes(t, "func 0; future h0 r0 f2; ret r0"+tail, wide, "|0|0 1")
	comes(t, "func 0; future h0 r0 f1; future h0 r0 f2; fail 16"+tail, wide, "|0|1|0|2 3|4|3")
}

func TestFailuresAreWaitedFor(t *testing.T) { // P14.1: as layer 8 goes on, and ends, behind a task that failed
	const tail = "; func 0; emit r0; fail 16; func 0; ret r0"
	comes(t, "func 0; spawn r0 r0 f1; spawn r0 r0 f2; emit r0; sync; emit r0; ret r0"+tail, wide, "|0|1|0|3|3|2 4 5")
	comes(t, "func 0; spawn r0 r0 f1; spawn r0 r0 f2; ret r0"+tail, wide, "|0|1|0|3|2 3 4")
	comes(t, "func 0; future h0 r0 f1; sync; emit r0; ret r0"+tail, wide, "|0|1|0 2")
	comes(t, "func 0; future h0 r0 f1; emit r0; touch r0 h0; emit r0; ret r0"+tail, wide, "|0|1|0|2 3")
	comes(t, "func 0; future h0 r0 f1; emit r0; touch r0 h1; ret r0"+tail, wide, "|0|1|0|3")
	// Who fails because a kid did has failed, too.
	comes(t, "func 0; spawn r0 r0 f3; sync; emit r0; ret r0"+tail+"; func 0; spawn r0 r0 f1; ret r0", wide, "|0|1|2|1 3|0 4")
	comes(t, "func 0; spawn r0 r0 f3; future h0 r0 f2; touch r0 h0; ret r0"+tail+"; func 0; touch r0 h0; ret r0", wide, "|0|0|2|2 3|1 3 4")
}

func TestBudget(t *testing.T) { // P14.1: there is no step for what the budget does not let a task do
	const text = "func 0; spawn r0 r0 f1; sync; ret r0; func 0; emit r0; emit r0; ret r0"
	comes(t, text, eval.Limits{Budget: 3, Depth: 1}, "|0|1|2|0 3|4")
	comes(t, text, eval.Limits{Budget: 2, Depth: 1}, "|0|1|0 2")
	comes(t, text, eval.Limits{Budget: 1, Depth: 1}, "|0")
	comes(t, "func 0; future h0 r0 f1; touch r1 h0; emit r0; ret r0; func 0; emit r0; emit r0; emit r0; ret r0", eval.Limits{Budget: 3, Depth: 1}, "|0|1|2|0 3")
}

func TestDepth(t *testing.T) { // P14.1: of a task that is too deep only the one ahead has a step
	for _, begins := range []string{"spawn r0 r0 f0", "future h0 r0 f0"} {
		text := "func 0; emit r0; " + begins + "; emit r0; ret r0"
		comes(t, text, eval.Limits{Budget: 9}, "|0")
		comes(t, text, eval.Limits{Budget: 9, Depth: 1}, "|0|1|2|1|3 4")
		if g := built(t, text, wide); graph.Work(g) != 122 || graph.Span(g) != 92 {
			t.Errorf("%s: %d steps, span %d", text, graph.Work(g), graph.Span(g))
		}
	}
}

func TestValuesLeadOn(t *testing.T) { // P14.1: where a value is wrong, one more instruction is done, or one less
	const tail = "; func 1; ret r0; func 1; touch r1 h2; zero r1 3; ret r0; fail 16"
	comes(t, "func 0; set r0 5; spawn r1 r0 f1; zero r1 4; emit r0; sync; zero r1 7; emit r1; ret r0"+tail, wide, "|0|1|1|2 3|4|5|6")
	comes(t, "func 0; set r0 5; spawn r1 r0 f1; spawn r1 r2 f1; sync; zero r1 6; emit r0; ret r0"+tail, wide, "|0|1|1|3|2 3 4|5|6")
	comes(t, "func 0; set r0 5; future h2 r0 f1; zero r2 4; emit r0; touch r3 h2; zero r3 7; emit r0; ret r0"+tail, wide, "|0|1|1|2 3|4|5|2 6")
	comes(t, "func 0; set r0 -1; future h2 r0 f1; spawn r4 r0 f2; set r2 0; sync; zero r4 0; zero r2 8; fail 16; ret r0"+tail, wide, "|0|1|1|2 3|4|5|3|2 6 7|8|9|10")
	// Whatever registers it ends with, and goes to.
	comes(t, "func 0; spawn r0 r1 f1; sync; zero r0 4; emit r0; ret r0; func 1; set r3 5; ret r3", wide, "|0|1|0 2|3|4|5")
	comes(t, "func 0; spawn r7 r1 f1; sync; zero r7 4; emit r0; ret r0; func 1; set r0 5; ret r3", wide, "|0|1|0 2|3|4")
	// Only a sync and a ret store what was spawned, and no register takes a future's value by them.
	comes(t, "func 0; set r0 5; future h2 r0 f1; sync; zero r2 5; fail 16; ret r0"+tail, wide, "|0|1|1 2|3|4")
}

func TestArguments(t *testing.T) { // P14.1
	p := program(t, "func 2; zero r1 3; spawn r3 r1 f1; ret r0; ret r1; func 1; zero r0 2; emit r0; ret r0")
	for want, args := range map[string][]int64{"|0": {1, 0}, "|0|1|2|3|1 4": {0, math.MinInt64}} {
		if g, e := graph.Build(p, args, wide, enough); e != api.OK || told(g) != want {
			t.Errorf("%v: %s, %d", args, told(g), e)
		}
	}
}

func TestErrors(t *testing.T) { // P14.1: those of layer 8, R2
	none, two := program(t, "func 0; spawn r0 r0 f1; ret r0; func 0; fail 16"), program(t, "func 2; ret r0")
	for i, row := range []struct {
		p    []code.Func
		args int
		l    eval.Limits
		most int
		want api.Errno
	}{
		{nil, 0, wide, enough, api.ErrArg}, {[]code.Func{{}}, 0, wide, enough, api.ErrArg},
		{program(t, "func 0; ret r8"), 0, wide, enough, api.ErrArg}, {program(t, "func 0; ret r0; func 0; sync"), 0, wide, enough, api.ErrArg},
		{none, 1, wide, enough, api.ErrArg}, {two, 1, wide, enough, api.ErrArg}, {two, 3, wide, enough, api.ErrArg},
		{none, 0, eval.Limits{Budget: 0}, enough, api.ErrArg}, {none, 0, eval.Limits{Budget: 10001}, enough, api.ErrArg},
		{none, 0, eval.Limits{Budget: 1, Depth: -1}, enough, api.ErrArg}, {none, 0, eval.Limits{Budget: 1, Depth: 31}, 0, api.ErrArg},
		{none, 0, wide, 2, api.ErrLong}, {none, 0, wide, 0, api.ErrLong}, {none, 0, wide, math.MinInt, api.ErrLong},
		{none, 0, wide, 3, api.OK}, {none, 0, wide, math.MaxInt, api.OK}, {two, 2, wide, 1, api.OK}, {two, 2, wide, 0, api.ErrLong},
	} {
		g, e := graph.Build(row.p, make([]int64, row.args), row.l, row.most)
		if e != row.want || e != api.OK && len(g.Behind) > 0 {
			t.Errorf("%d: %v, %d", i, g, e)
		}
	}
}

func TestWhatIsNoGraph(t *testing.T) { // P14.1, R2
	for i, behind := range [][][]int{
		{{0}}, {{-1}}, {{math.MinInt}}, {{1}, nil}, {nil, {1}}, {nil, {2}, nil}, {nil, {-1}}, {nil, {math.MaxInt}}, {nil, {0, 0}}, {nil, {-1, 0}},
		{nil, nil, {1, 0}}, {nil, nil, {0, 1, 1}}, {nil, nil, {0, 1, 2}}, {nil, nil, {1, -1}}, {nil, nil, nil, {0, 2, 1}}, {nil, {0}, {3}, {0}},
	} {
		g := graph.Graph{Behind: behind}
		if graph.Right(g) || graph.Work(g) != 0 || graph.Span(g) != 0 || len(graph.Depths(g)) != 0 {
			t.Errorf("%d: %v, %d, %d, %v", i, graph.Right(g), graph.Work(g), graph.Span(g), graph.Depths(g))
		}
	}
}

func TestWhatIsOne(t *testing.T) { // P14.1
	for i, row := range []struct {
		behind [][]int
		depths []int
		span   int
	}{
		{nil, nil, 0},
		{[][]int{}, nil, 0},
		{[][]int{nil}, []int{1}, 1},
		{[][]int{{}, {}, nil}, []int{1, 1, 1}, 1},
		{[][]int{nil, {0}, {1}}, []int{1, 2, 3}, 3},
		{[][]int{nil, {0}, {0, 1}, {0}}, []int{1, 2, 3, 2}, 3},
		{[][]int{nil, nil, {0, 1}, {2}, {0}, {3, 4}, nil}, []int{1, 1, 2, 3, 2, 4, 1}, 4},
		{[][]int{nil, {0}, {1}, nil, {2, 3}}, []int{1, 2, 3, 1, 4}, 4},
	} {
		g := graph.Graph{Behind: row.behind}
		if !graph.Right(g) || graph.Work(g) != len(row.behind) || graph.Span(g) != row.span || !slices.Equal(graph.Depths(g), row.depths) {
			t.Errorf("%d: %v, %d, %d, %v", i, graph.Right(g), graph.Work(g), graph.Span(g), graph.Depths(g))
		}
	}
}
