package greedy_test

import (
	"math"
	"slices"
	"testing"

	"haymow/api"
	"haymow/graph"
	"haymow/greedy"
)

// diamond is two rows that meet, and one step beside them.
var diamond = graph.Graph{Behind: [][]int{nil, {0}, {0}, {1}, {2, 3}, nil}}

func apart(n int) graph.Graph { return graph.Graph{Behind: make([][]int, n)} }

func TestExample(t *testing.T) { // P15.1: example 1
	w, e := greedy.Plan(apart(2), 2)
	if e != api.OK || !slices.Equal(w, []int{0, 0}) || greedy.Time(w) != 1 || !greedy.Fits(apart(2), 2, w) {
		t.Errorf("%v, %d, time %d", w, e, greedy.Time(w))
	}
}

func TestPlan(t *testing.T) { // P15.1
	for i, row := range []struct {
		behind  [][]int
		workers int
		want    []int
	}{
		{nil, 1, nil},
		{nil, 64, nil},
		{[][]int{nil}, 64, []int{0}},
		{diamond.Behind, 1, []int{0, 1, 2, 3, 4, 5}},
		// At the moment 1 the steps 1 and 2 go first; the last one was done beside 0.
		{diamond.Behind, 2, []int{0, 1, 1, 2, 3, 0}},
		{diamond.Behind, 3, []int{0, 1, 1, 2, 3, 0}},
		// A worker that has nothing to do does not take what is ready only now.
		{[][]int{nil, {0}, {1}, {0}, {0}, nil}, 2, []int{0, 1, 2, 1, 2, 0}},
		// The first ones go first, also where a longer row begins behind.
		{[][]int{nil, nil, nil, nil, {3}, {4}}, 2, []int{0, 0, 1, 1, 2, 3}},
		{[][]int{nil, nil, {0}, nil, nil, {1, 4}, nil}, 3, []int{0, 0, 1, 0, 1, 2, 1}},
		// What is ready late takes a moment that those between have left room at.
		{[][]int{nil, {0}, nil, nil, nil, nil}, 2, []int{0, 1, 0, 1, 2, 2}},
		{[][]int{nil, {0}, {1}, nil, nil}, 2, []int{0, 1, 2, 0, 1}},
		{[][]int{nil, nil, {0}, {1}, {0}, {0}, {1}}, 2, []int{0, 0, 1, 1, 2, 2, 3}},
	} {
		g := graph.Graph{Behind: row.behind}
		w, e := greedy.Plan(g, row.workers)
		if e != api.OK || !slices.Equal(w, row.want) || !greedy.Fits(g, row.workers, w) {
			t.Errorf("%d: %v, %d; want %v", i, w, e, row.want)
		}
	}
}

func TestAsManyAsThereAreWorkers(t *testing.T) { // P15.1
	for _, workers := range []int{1, 2, 63, 64} {
		for _, steps := range []int{1, 63, 64, 65, 128, 129, 1000} {
			w, e := greedy.Plan(apart(steps), workers)
			if e != api.OK || len(w) != steps || greedy.Time(w) != (steps+workers-1)/workers {
				t.Fatalf("%d for %d: %v, %d", steps, workers, w, e)
			}
			for i, moment := range w {
				if moment != i/workers {
					t.Fatalf("%d for %d: %v", steps, workers, w)
				}
			}
		}
	}
}

func TestNoPlan(t *testing.T) { // P15.1, R2
	none := graph.Graph{Behind: [][]int{nil, {1}}}
	for _, row := range []struct {
		g       graph.Graph
		workers int
	}{
		{diamond, 0}, {diamond, 65}, {diamond, -1}, {diamond, math.MinInt}, {diamond, math.MaxInt}, {graph.Graph{}, 0}, {graph.Graph{}, 65},
		{none, 1}, {none, 64}, {none, 0}, {none, 65}, {graph.Graph{Behind: [][]int{{-1}}}, 2}, {graph.Graph{Behind: [][]int{nil, {0, 0}}}, 2},
	} {
		w, e := greedy.Plan(row.g, row.workers)
		if e != api.ErrArg || len(w) > 0 {
			t.Errorf("%v, %d: %v, %d", row.g, row.workers, w, e)
		}
		when := make([]int, len(row.g.Behind))
		for i := range when {
			when[i] = i
		}
		if greedy.Fits(row.g, row.workers, when) {
			t.Errorf("%v, %d: fits", row.g, row.workers)
		}
	}
}

func TestFits(t *testing.T) { // P15.1
	for i, row := range []struct {
		workers int
		when    []int
		want    bool
	}{
		{2, []int{0, 1, 1, 2, 3, 0}, true},
		{2, []int{0, 1, 1, 2, 3, 3}, true},
		// Nobody must hurry: moments may stay empty, and be in any order.
		{1, []int{0, 2, 1, 3, 4, 9}, true},
		{1, []int{10, 12, 11, 13, math.MaxInt, 0}, true},
		{64, []int{0, 1, 1, 2, 3, 0}, true},
		// More than there are workers.
		{1, []int{0, 1, 1, 2, 3, 4}, false},
		{2, []int{0, 1, 1, 2, 3, 1}, false},
		{1, []int{0, 1, 2, 3, 4, 0}, false},
		// At the same moment as, or ahead of, one that it is behind.
		{64, []int{0, 0, 1, 2, 3, 0}, false},
		{64, []int{0, 1, 1, 2, 2, 0}, false},
		{64, []int{0, 1, 3, 2, 3, 0}, false},
		{64, []int{1, 2, 0, 3, 4, 0}, false},
		{64, []int{math.MaxInt, math.MaxInt, math.MaxInt, math.MaxInt, math.MaxInt, 0}, false},
		{64, []int{math.MaxInt, 0, 0, 1, 2, 0}, false},
		// Not just one moment for each, from 0 on.
		{2, []int{0, 1, 1, 2, 3}, false},
		{2, []int{0, 1, 1, 2, 3, 0, 4}, false},
		{2, nil, false},
		{2, []int{0, 1, 1, 2, 3, -1}, false},
		{2, []int{-1, 0, 0, 1, 2, 0}, false},
		{2, []int{math.MinInt, 1, 1, 2, 3, 0}, false},
	} {
		if greedy.Fits(diamond, row.workers, row.when) != row.want {
			t.Errorf("%d: %v of %d", i, row.when, row.workers)
		}
	}
	if !greedy.Fits(graph.Graph{}, 1, nil) || !greedy.Fits(graph.Graph{}, 64, []int{}) || greedy.Fits(graph.Graph{}, 1, []int{0}) {
		t.Error("no steps")
	}
}

func TestTime(t *testing.T) { // P15.1, R6
	for i, row := range []struct {
		when []int
		want int
	}{
		{nil, 0}, {[]int{}, 0}, {[]int{0}, 1}, {[]int{0, 0, 0}, 1}, {[]int{2, 7, 3}, 8}, {[]int{-1}, 0}, {[]int{-5, math.MinInt}, 0},
		{[]int{-5, 0}, 1}, {[]int{3, -5, 1}, 4}, {[]int{math.MaxInt - 1, 1}, math.MaxInt}, {[]int{math.MaxInt}, math.MinInt},
	} {
		if got := greedy.Time(row.when); got != row.want {
			t.Errorf("%d: %d; want %d", i, got, row.want)
		}
	}
}
