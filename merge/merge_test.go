package merge_test

import (
	"math"
	"slices"
	"testing"

	"haymow/api"
	"haymow/merge"
	"haymow/path"
	"haymow/sample"
)

// comes holds a text's node against what it is merged to; the path of the first
// failure is none where nothing fails.
func comes(t *testing.T, text string, told []int64, value int64, fail int, first string) {
	t.Helper()
	n := sample.Node(text)
	if !merge.Right(n) {
		t.Errorf("%s may not be", text)
	}
	gotTold, gotValue, gotFail, e := merge.Merge(n)
	if e != api.OK || !slices.Equal(gotTold, told) || gotValue != value || gotFail != fail {
		t.Errorf("%s: %v, %d, %d, %d", text, gotTold, gotValue, gotFail, e)
	}
	p, met := merge.First(n)
	if met != (first != "") || met && path.Text(p) != first || !met && len(p) != 0 {
		t.Errorf("%s: first %v, %t", text, p, met)
	}
}

// refused holds a node for one that may not be.
func refused(t *testing.T, what string, n *merge.Node) {
	t.Helper()
	if merge.Right(n) {
		t.Errorf("%s may be", what)
	}
	if told, value, fail, e := merge.Merge(n); e != api.ErrForm || len(told) != 0 || value != 0 || fail != 0 {
		t.Errorf("%s: %v, %d, %d, %d", what, told, value, fail, e)
	}
	if nodes, numbers := merge.Many(n); nodes != 0 || numbers != 0 {
		t.Errorf("%s: %d nodes, %d numbers", what, nodes, numbers)
	}
	if p, met := merge.First(n); met || len(p) != 0 {
		t.Errorf("%s: first %v, %t", what, p, met)
	}
}

func TestExample(t *testing.T) { // P7.1
	comes(t, "(5 (7 =0) 6 =0)", []int64{5, 7, 6}, 0, 0, "")
}

func TestMerge(t *testing.T) { // P7.1
	comes(t, "()", nil, 0, 0, "")
	comes(t, "(=-9)", nil, -9, 0, "")
	comes(t, "(4 4 -4 =8)", []int64{4, 4, -4}, 8, 0, "")
	comes(t, "((=1) (=2) =3)", nil, 3, 0, "")
	comes(t, "((1 (2 (3) 4) 5) 6 (7) =9)", []int64{1, 2, 3, 4, 5, 6, 7}, 9, 0, "")
	comes(t, "(9223372036854775807 -9223372036854775808 =-9223372036854775808)", []int64{math.MaxInt64, math.MinInt64}, math.MinInt64, 0, "")
}

func TestWhereAKidFailsAllEnds(t *testing.T) { // P7.1
	comes(t, "(1 2 !7)", []int64{1, 2}, 0, 7, ".")
	comes(t, "(!1)", nil, 0, 1, ".")
	comes(t, "(!-3)", nil, 0, -3, ".")
	comes(t, "(1 (2 !33) 3 =12)", []int64{1, 2}, 0, 33, "0")
	comes(t, "(1 (2 =5) 3 (4 !33) 5 (6 !34) !5)", []int64{1, 2, 3, 4}, 0, 33, "1")
	// A node's own failure is met behind those of its kids, and behind what it tells.
	comes(t, "(1 (2 (3 !16) 4 !17) 5 !18)", []int64{1, 2, 3}, 0, 16, "0.0")
	comes(t, "(1 (2 (3) 4 !17) 5 !18)", []int64{1, 2, 3, 4}, 0, 17, "0")
	comes(t, "(1 (2 (3) 4) 5 !18)", []int64{1, 2, 3, 4, 5}, 0, 18, ".")
	comes(t, "(() () ((1) (2) (() (3 !6) (4))) (5 !7))", []int64{1, 2, 3}, 0, 6, "2.2.1")
}

func TestMany(t *testing.T) { // P7.1: what stands behind a failure counts, too
	for text, want := range map[string][2]int{
		"()": {1, 0}, "(1 1 =1)": {1, 2}, "(1 (2 (3) 4 !17) 5 !18)": {3, 5}, "((!1) (2 2) (3 (4)))": {5, 4},
	} {
		if nodes, numbers := merge.Many(sample.Node(text)); nodes != want[0] || numbers != want[1] {
			t.Errorf("%s: %d, %d", text, nodes, numbers)
		}
	}
}

func TestNodesThatMayNotBe(t *testing.T) { // P7.1, R2
	leaf := func() *merge.Node { return &merge.Node{Value: 1} }
	kid := func(at int64) merge.Piece { return merge.Piece{Kid: true, Number: at} }
	number := merge.Piece{Number: 1}
	for what, wrong := range map[string]*merge.Node{
		"nil":                       nil,
		"a value beside a failure":  {Value: 1, Fail: 1},
		"one beside one below 0":    {Value: -1, Fail: -1},
		"a kid that no piece names": {Pieces: []merge.Piece{number}, Kids: []*merge.Node{leaf()}},
		"the last kid of two":       {Pieces: []merge.Piece{kid(0)}, Kids: []*merge.Node{leaf(), leaf()}},
		"the first one of two":      {Pieces: []merge.Piece{kid(1)}, Kids: []*merge.Node{leaf(), leaf()}},
		"a kid that is not there":   {Pieces: []merge.Piece{kid(0)}},
		"one behind the last one":   {Pieces: []merge.Piece{kid(0), number, kid(1)}, Kids: []*merge.Node{leaf()}},
		"twice the same":            {Pieces: []merge.Piece{kid(0), kid(0)}, Kids: []*merge.Node{leaf()}},
		"twice the same of two":     {Pieces: []merge.Piece{kid(0), kid(0)}, Kids: []*merge.Node{leaf(), leaf()}},
		"falling":                   {Pieces: []merge.Piece{kid(1), kid(0)}, Kids: []*merge.Node{leaf(), leaf()}},
		"a place below 0":           {Pieces: []merge.Piece{kid(-1)}, Kids: []*merge.Node{leaf()}},
		"the greatest place":        {Pieces: []merge.Piece{kid(math.MaxInt64)}, Kids: []*merge.Node{leaf()}},
		"the least place":           {Pieces: []merge.Piece{kid(math.MinInt64)}, Kids: []*merge.Node{leaf()}},
		"a place that goes round":   {Pieces: []merge.Piece{kid(1 << 32)}, Kids: []*merge.Node{leaf()}},
		"a kid that is nil":         {Pieces: []merge.Piece{kid(0)}, Kids: []*merge.Node{nil}},
		"one of two":                {Pieces: []merge.Piece{kid(0), kid(1)}, Kids: []*merge.Node{leaf(), nil}},
	} {
		refused(t, what, wrong)
		refused(t, what+", below another one", &merge.Node{Pieces: []merge.Piece{number, kid(0)}, Kids: []*merge.Node{wrong}})
		refused(t, what+", behind a failure", &merge.Node{
			Pieces: []merge.Piece{kid(0), kid(1), kid(2)},
			Kids:   []*merge.Node{leaf(), {Fail: 16}, {Pieces: []merge.Piece{kid(0)}, Kids: []*merge.Node{wrong}}},
		})
	}
}

// under is a node with these kids.
func under(kids ...*merge.Node) *merge.Node {
	n := &merge.Node{Kids: kids}
	for i := range kids {
		n.Pieces = append(n.Pieces, merge.Piece{Kid: true, Number: int64(i)})
	}
	return n
}

// row is a node with others below it, one below the other, so many in all.
func row(many int, last *merge.Node) *merge.Node {
	n := last
	for range many - 1 {
		n = under(n)
	}
	return n
}

func TestHowManyMayStandInARow(t *testing.T) { // P7.1
	for many := 1; many <= api.MaxDepth+1; many++ {
		n := row(many, sample.Node("(5 !44)"))
		told, _, fail, e := merge.Merge(n)
		if !merge.Right(n) || e != api.OK || fail != 44 || !slices.Equal(told, []int64{5}) {
			t.Errorf("%d: %v, %d, %d", many, told, fail, e)
		}
		if p, met := merge.First(n); !met || !slices.Equal(p, make([]int, many-1)) {
			t.Errorf("%d: first %v, %t", many, p, met)
		}
		if nodes, numbers := merge.Many(n); nodes != many || numbers != 1 {
			t.Errorf("%d: %d, %d", many, nodes, numbers)
		}
	}
	refused(t, "32 in a row", row(api.MaxDepth+2, &merge.Node{}))
	refused(t, "100 in a row", row(100, &merge.Node{}))
	refused(t, "32 in a row, behind a failure", under(sample.Node("(!9)"), row(api.MaxDepth+1, &merge.Node{})))
	// One node that stands in two places may be there in the one, and too deep in the other.
	deep := row(20, &merge.Node{})
	if n := under(deep, row(11, deep)); !merge.Right(n) {
		t.Error("31 in a row, of which 20 stand elsewhere, too, may not be")
	}
	refused(t, "too deep at the second place", under(deep, row(12, deep)))
	refused(t, "too deep at the first place", under(row(12, deep), deep))
	forked := under(row(19, &merge.Node{}), &merge.Node{})
	if n := under(forked, row(11, forked)); !merge.Right(n) {
		t.Error("31 in a row, of which 20 fork, may not be")
	}
	refused(t, "too deep at the second place, with others beside", under(forked, row(12, forked)))
}
