package unfold_test

import (
	"math"
	"slices"
	"strings"
	"testing"

	"haymow/api"
	"haymow/asm"
	"haymow/code"
	"haymow/eval"
	"haymow/merge"
	"haymow/path"
	"haymow/sample"
	"haymow/unfold"
)

const enough = 1 << 20

var wide = eval.Limits{Budget: api.MaxBudget, Depth: api.MaxDepth}

// program is that of lines with ; between.
func program(t *testing.T, text string) []code.Func {
	t.Helper()
	p, line, e := asm.Parse(strings.ReplaceAll(text, ";", "\n"))
	if e != api.OK {
		t.Fatalf("%s: line %d: %d", text, line, e)
	}
	return p
}

// logged is a log's text: paths, and how many instructions each did.
func logged(log []eval.Entry) string {
	words := make([]string, len(log))
	for i, entry := range log {
		words[i] = path.Text(entry.Path) + ":" + path.Text([]int{entry.Steps})
	}
	return strings.Join(words, " ")
}

func nothing(tree unfold.Tree) bool {
	return tree.Node == nil && len(tree.Log) == 0 && tree.Need == unfold.Need{}
}

// comes holds an unfolding against a node, a log, and how many cells and chunks
// there are: the frames and the instructions are the log's.
func comes(t *testing.T, text string, l eval.Limits, node, log string, cells, chunks int) {
	t.Helper()
	tree, e := unfold.Unfold(program(t, text), nil, l, enough)
	if e != api.OK || sample.Text(tree.Node) != node || logged(tree.Log) != log {
		t.Fatalf("%s\n%d: %s, %s; want\n%s, %s", text, e, sample.Text(tree.Node), logged(tree.Log), node, log)
	}
	want := unfold.Need{Frames: len(tree.Log), Cells: cells, Chunks: chunks}
	for _, entry := range tree.Log {
		want.Steps += entry.Steps
	}
	if tree.Need != want {
		t.Errorf("%s\nneeds %v; want %v", text, tree.Need, want)
	}
}

func TestExample(t *testing.T) { // P8.1, P8.2
	const text = "func 0; spawn r0 r0 f1; emit r0; ret r0; func 0; div r0 r0 r0; ret r0"
	comes(t, text, wide, "((!1) 0 !5)", ".:3 0:1", 0, 1)
	tree, _ := unfold.Unfold(program(t, text), nil, wide, enough)
	if told, _, fail, _ := merge.Merge(tree.Node); fail != api.FailZero || len(told) != 0 {
		t.Errorf("merged: %v, %d", told, fail)
	}
}

func TestOneTask(t *testing.T) { // P8.1
	comes(t, "func 0; set r1 7; emit r1; ret r1", wide, "(7 =7)", ".:3", 0, 1)
	comes(t, "func 0; emit r0; div r0 r0 r0; ret r0", wide, "(0 !1)", ".:2", 0, 1)
	comes(t, "func 0; touch r0 h0; ret r0", wide, "(!2)", ".:1", 0, 0)
	comes(t, "func 0; emit r0; fail 2147483647", wide, "(0 !2147483647)", ".:2", 0, 1)
	comes(t, "func 0; sync; sync; ret r0", wide, "(=0)", ".:3", 0, 0)
}

func TestArguments(t *testing.T) { // P8.1
	p := program(t, "func 3; spawn r0 r1 f1; ret r0; func 2; emit r0; emit r1; emit r2; sub r0 r0 r1; ret r0")
	tree, e := unfold.Unfold(p, []int64{5, math.MinInt64, 1}, wide, enough)
	if e != api.OK || sample.Text(tree.Node) != "((-9223372036854775808 1 0 =9223372036854775807) =9223372036854775807)" {
		t.Errorf("%s, %d", sample.Text(tree.Node), e)
	}
}

func TestATaskGoesOnBehindAKidThatFails(t *testing.T) { // P8.1
	const fails, ends = "; func 0; emit r0; fail 44", "; func 0; set r0 9; emit r0; ret r0"
	for _, begins := range []struct {
		text  string
		cells int
	}{{"spawn r1 r0 f1", 0}, {"future h1 r0 f1", 1}} {
		own := "func 0; " + begins.text + "; emit r1; spawn r2 r0 f2; emit r2; "
		kids := "((0 !44) 0 (9 =9) 0 "
		comes(t, own+"ret r2"+fails+ends, wide, kids+"!5)", ".:5 0:2 1:3", begins.cells, 3)
		comes(t, own+"sync; emit r2; ret r2"+fails+ends, wide, kids+"!5)", ".:5 0:2 1:3", begins.cells, 3)
		// Ahead of that it may fail in its own way.
		comes(t, own+"fail 20"+fails+ends, wide, kids+"!20)", ".:5 0:2 1:3", begins.cells, 3)
		comes(t, own+"div r0 r0 r1; ret r0"+fails+ends, wide, kids+"!1)", ".:5 0:2 1:3", begins.cells, 3)
		comes(t, own+"touch r0 h0; ret r0"+fails+ends, wide, kids+"!2)", ".:5 0:2 1:3", begins.cells, 3)
		comes(t, own+"ret r2"+fails+ends, eval.Limits{Budget: 4, Depth: 1}, kids+"!3)", ".:4 0:2 1:3", begins.cells, 3)
	}
}

func TestASyncLooksAtAllThatWereBegunSoFar(t *testing.T) { // P8.1
	const tail = "; func 0; ret r0; func 0; fail 16"
	// One that begins behind the sync does not matter to it.
	comes(t, "func 0; spawn r0 r0 f1; sync; emit r0; spawn r0 r0 f2; emit r0; ret r0"+tail, wide, "((=0) 0 (!16) 0 !5)", ".:6 0:1 1:1", 0, 1)
	comes(t, "func 0; spawn r0 r0 f1; spawn r0 r0 f2; spawn r0 r0 f1; sync; ret r0"+tail, wide, "((=0) (!16) (=0) !5)", ".:4 0:1 1:1 2:1", 0, 0)
	// A kid that fails with FailOther has failed, too.
	comes(t, "func 0; spawn r0 r0 f1; emit r0; ret r0; func 0; spawn r0 r0 f2; sync; fail 20; func 0; fail 16", wide, "(((!16) !5) 0 !5)", ".:3 0:2 0.0:1", 0, 1)
}

func TestValuesAreStoredBehindTheNextSync(t *testing.T) { // P8.1
	const tail = "; func 1; ret r0"
	comes(t, "func 0; set r0 5; spawn r1 r0 f1; set r1 3; emit r1; sync; emit r1; set r1 4; sync; emit r1; ret r0"+tail, wide, "((=5) 3 5 4 =5)", ".:10 0:1", 0, 1)
	comes(t, "func 0; set r0 5; spawn r1 r0 f1; set r0 6; spawn r1 r0 f1; ret r1"+tail, wide, "((=5) (=6) =6)", ".:5 0:1 1:1", 0, 0)
}

func TestTouch(t *testing.T) { // P8.1
	const tail = "; func 0; set r0 7; ret r0; func 0; fail 44; func 0; emit r0; touch r1 h1; emit r1; ret r1"
	comes(t, "func 0; future h1 r0 f1; spawn r0 r0 f3; touch r2 h1; ret r2"+tail, wide, "((=7) (0 7 =7) =7)", ".:4 0:2 1:4", 1, 1)
	comes(t, "func 0; future h1 r0 f2; emit r0; touch r2 h1; emit r0; ret r2"+tail, wide, "((!44) 0 !5)", ".:3 0:1", 1, 1)
	// Who has it from another task fails, too, though it did not begin it.
	comes(t, "func 0; future h1 r0 f2; spawn r0 r0 f3; emit r0; ret r2"+tail, wide, "((!44) (0 !5) 0 !5)", ".:4 0:1 1:2", 1, 2)
	// A later future of the same place is another one; the first one's failure is seen at the ret.
	comes(t, "func 0; future h1 r0 f2; future h1 r0 f1; spawn r0 r0 f3; touch r2 h1; emit r2; ret r2"+tail, wide, "((!44) (=7) (0 7 =7) 7 !5)", ".:6 0:1 1:2 2:4", 2, 2)
	// A future's task does not know its own future, but the one that stood there ahead.
	comes(t, "func 0; future h1 r0 f3; ret r2"+tail, wide, "((0 !2) !5)", ".:2 0:2", 1, 1)
	comes(t, "func 0; future h1 r0 f2; future h1 r0 f3; touch r0 h1; ret r2"+tail, wide, "((!44) (0 !5) !5)", ".:3 0:1 1:2", 2, 1)
}

func TestDepth(t *testing.T) { // P8.1: a task that is too deep is none, and needs nothing
	for _, begins := range []string{"spawn r0 r0 f0", "future h0 r0 f0"} {
		text := "func 0; emit r0; " + begins + "; emit r0; ret r0"
		cells := strings.Count(begins, "future")
		comes(t, text, eval.Limits{Budget: 9}, "(0 !4)", ".:2", 0, 1)
		comes(t, text, eval.Limits{Budget: 9, Depth: 2}, "(0 (0 (0 !4) 0 !5) 0 !5)", ".:4 0:4 0.0:2", 2*cells, 3)
		tree, e := unfold.Unfold(program(t, text), nil, wide, enough)
		if e != api.OK || len(tree.Log) != 31 || !merge.Right(tree.Node) || !slices.Equal(tree.Log[30].Path, make([]int, 30)) {
			t.Errorf("%s: %s, %d", text, logged(tree.Log), e)
		}
	}
}

func TestBudget(t *testing.T) { // P8.1: of a task, not of all
	const text = "func 0; spawn r0 r0 f1; spawn r0 r0 f1; ret r0; func 0; emit r0; emit r0; ret r0"
	comes(t, text, eval.Limits{Budget: 3, Depth: 1}, "((0 0 =0) (0 0 =0) =0)", ".:3 0:3 1:3", 0, 2)
	comes(t, text, eval.Limits{Budget: 2, Depth: 1}, "((0 0 !3) (0 0 !3) !3)", ".:2 0:2 1:2", 0, 2)
	comes(t, text, eval.Limits{Budget: 1, Depth: 1}, "((0 !3) !3)", ".:1 0:1", 0, 1)
	comes(t, "func 0; jump 0", wide, "(!3)", ".:10000", 0, 0)
}

func TestChunks(t *testing.T) { // P8.1: of 4 numbers, or a part of 4, of one task
	for numbers, chunks := range []int{0, 1, 1, 1, 1, 2, 2, 2, 2, 3} {
		text := "func 0;" + strings.Repeat("emit r0;", numbers) + "ret r0"
		comes(t, text, wide, "("+strings.Repeat("0 ", numbers)+"=0)", ".:"+path.Text([]int{numbers + 1}), 0, chunks)
	}
	const tail = "; func 0; emit r0; emit r0; ret r0; func 0; emit r0; fail 16"
	comes(t, "func 0; emit r0; spawn r1 r0 f1; emit r0; spawn r1 r0 f1; ret r0"+tail, wide, "(0 (0 0 =0) 0 (0 0 =0) =0)", ".:5 0:3 1:3", 0, 3)
	comes(t, "func 0; spawn r1 r0 f2; emit r0; emit r0; emit r0; emit r0; emit r0; ret r0"+tail, wide, "((0 !16) 0 0 0 0 0 !5)", ".:7 0:2", 0, 3)
}

func TestCells(t *testing.T) { // P8.1: for each future that is begun, of whatever place
	comes(t, "func 0; future h0 r0 f1; future h0 r0 f1; future h3 r0 f2; spawn r0 r0 f1; ret r0; func 0; ret r0; func 0; future h0 r0 f1; ret r0", wide,
		"((=0) (=0) ((=0) =0) (=0) =0)", ".:5 0:1 1:1 2:2 2.0:1 3:1", 4, 0)
}

func TestWhatMayNotRun(t *testing.T) { // P8.1, R2
	none, two := program(t, "func 0; ret r0"), program(t, "func 2; ret r0")
	rows := []struct {
		p    []code.Func
		args int
		l    eval.Limits
	}{
		{nil, 0, wide}, {[]code.Func{{}}, 0, wide}, {program(t, "func 0; ret r8"), 0, wide}, {program(t, "func 0; ret r0; func 0; sync"), 0, wide},
		{none, 1, wide}, {two, 0, wide}, {two, 1, wide}, {two, 3, wide},
		{none, 0, eval.Limits{Budget: 0}}, {none, 0, eval.Limits{Budget: 10001}}, {none, 0, eval.Limits{Budget: -1}},
		{none, 0, eval.Limits{Budget: 1, Depth: -1}}, {none, 0, eval.Limits{Budget: 1, Depth: 31}},
	}
	for i, row := range rows {
		for _, most := range []int{math.MinInt, 0, enough, math.MaxInt} {
			if tree, e := unfold.Unfold(row.p, make([]int64, row.args), row.l, most); e != api.ErrArg || !nothing(tree) {
				t.Errorf("%d, %d: %v, %d", i, most, tree, e)
			}
		}
	}
	if _, e := unfold.Unfold(none, nil, eval.Limits{Budget: 1, Depth: 0}, 1); e != api.OK {
		t.Errorf("the least limits: %d", e)
	}
}

func TestTooMany(t *testing.T) { // P8.1: as many as most may be done, in all
	for _, row := range []struct {
		text string
		l    eval.Limits
		many int
	}{
		{"func 0; ret r0", wide, 1},
		{"func 0; emit r0; spawn r0 r0 f1; spawn r0 r0 f1; ret r0; func 0; emit r0; ret r0", wide, 8},
		// Those behind the first failure count, too.
		{"func 0; spawn r0 r0 f1; spawn r0 r0 f1; emit r0; ret r0; func 0; fail 16", wide, 6},
		{"func 0; jump 0", eval.Limits{Budget: 5}, 5},
		{"func 0; spawn r0 r0 f0; ret r0", wide, 61},
	} {
		p := program(t, row.text)
		for most := range row.many {
			if tree, e := unfold.Unfold(p, nil, row.l, most); e != api.ErrLong || !nothing(tree) {
				t.Errorf("%s, %d: %v, %d", row.text, most, tree, e)
			}
		}
		for most, want := range map[int]api.Errno{math.MinInt: api.ErrLong, -1: api.ErrLong, row.many: api.OK, row.many + 1: api.OK, math.MaxInt: api.OK} {
			tree, e := unfold.Unfold(p, nil, row.l, most)
			if e != want || e == api.OK && tree.Need.Steps != row.many || e != api.OK && !nothing(tree) {
				t.Errorf("%s, %d: %v, %d", row.text, most, tree, e)
			}
		}
	}
}
