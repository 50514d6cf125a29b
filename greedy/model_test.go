package greedy_test

import (
	"math/rand"
	"slices"
	"testing"

	"haymow/api"
	"haymow/eval"
	"haymow/graph"
	"haymow/greedy"
	"haymow/sample"
)

// model makes the greedy plan by the chapter's words alone: moment by moment.
func model(g graph.Graph, workers int) []int {
	when := make([]int, len(g.Behind))
	for i := range when {
		when[i] = -1
	}
	for moment := 0; slices.Contains(when, -1); moment++ {
		var now []int
		for i, row := range g.Behind {
			waits := slices.ContainsFunc(row, func(k int) bool { return when[k] < 0 })
			if when[i] < 0 && !waits && len(now) < workers {
				now = append(now, i)
			}
		}
		for _, i := range now {
			when[i] = moment
		}
	}
	return when
}

// fitting is the chapter's word for a plan that fits, step by step.
func fitting(g graph.Graph, workers int, when []int) bool {
	if len(when) != len(g.Behind) {
		return false
	}
	for i, moment := range when {
		beside := 0
		for _, other := range when {
			if other == moment {
				beside++
			}
		}
		if moment < 0 || beside > workers {
			return false
		}
		for _, k := range g.Behind[i] {
			if when[k] >= moment {
				return false
			}
		}
	}
	return true
}

func twin(g graph.Graph) graph.Graph {
	out := graph.Graph{Behind: make([][]int, len(g.Behind))}
	for i, row := range g.Behind {
		out.Behind[i] = slices.Clone(row)
	}
	return out
}

func same(a, b graph.Graph) bool {
	return slices.EqualFunc(a.Behind, b.Behind, func(x, y []int) bool { return slices.Equal(x, y) })
}

// drawn is a graph of any shape: the greater thin is, the fewer wait.
func drawn(r *rand.Rand, steps, thin int) graph.Graph {
	g := graph.Graph{Behind: make([][]int, steps)}
	for i := range g.Behind {
		for k := range i {
			if r.Intn(thin) == 0 {
				g.Behind[i] = append(g.Behind[i], k)
			}
		}
	}
	return g
}

// ofProgram is a program's graph.
func ofProgram(r *rand.Rand) graph.Graph {
	for {
		p := sample.Program(r.Intn)
		if g, e := graph.Build(p, sample.Args(r.Intn, p), eval.Limits{Budget: 30, Depth: r.Intn(4)}, 300); e == api.OK {
			return g
		}
	}
}

func workers(r *rand.Rand) int { return []int{1 + r.Intn(4), 1 + r.Intn(64)}[r.Intn(2)] }

// planned holds the greedy plan against the model, and against what follows.
func planned(t *testing.T, g graph.Graph, workers int) {
	t.Helper()
	want, before := model(g, workers), twin(g)
	w, e := greedy.Plan(g, workers)
	if e != api.OK || !slices.Equal(w, want) {
		t.Fatalf("%v of %d: %v, %d; want %v", g, workers, w, e, want)
	}
	follows(t, g, workers, w)
	if !same(g, before) || !slices.Equal(w, want) {
		t.Fatalf("%v of %d is changed", before, workers)
	}
	for i := range w[:cap(w)] {
		w[:cap(w)][i] = -7
	}
	if again, e := greedy.Plan(g, workers); e != api.OK || !slices.Equal(again, want) {
		t.Fatalf("%v of %d: another time %v, %d", g, workers, again, e)
	}
}

func follows(t *testing.T, g graph.Graph, workers int, w []int) { // P15.2
	t.Helper()
	work, span, time := graph.Work(g), graph.Span(g), greedy.Time(w)
	if !greedy.Fits(g, workers, w) || time < span || time*workers < work || time*workers > work+(workers-1)*span {
		t.Fatalf("%v of %d: %v: work %d, span %d, time %d", g, workers, w, work, span, time)
	}
	if workers == 1 && time != work {
		t.Fatalf("%v of one worker: %v", g, w)
	}
}

func TestAgainstTheModel(t *testing.T) { // P15.1, P15.2, R4, R5
	r := rand.New(rand.NewSource(15))
	for range 20000 {
		planned(t, drawn(r, r.Intn(25), 1+r.Intn(12)), workers(r))
	}
}

func TestOfPrograms(t *testing.T) { // P15.1, P15.2
	r := rand.New(rand.NewSource(151))
	shorter := 0
	for range 3000 {
		g, n := ofProgram(r), workers(r)
		planned(t, g, n)
		if w, _ := greedy.Plan(g, n); greedy.Time(w) < graph.Work(g) {
			shorter++
		}
	}
	if shorter < 500 {
		t.Errorf("only %d take less than one worker", shorter)
	}
}

func TestFitsAgainstTheModel(t *testing.T) { // P15.1, P15.2: nor does any plan that fits take less
	r := rand.New(rand.NewSource(152))
	fits := 0
	for range 100000 {
		g, n := drawn(r, r.Intn(6), 1+r.Intn(9)), 1+r.Intn(3)
		when := make([]int, max(0, len(g.Behind)+r.Intn(20)/19-r.Intn(20)/19))
		for i := range when {
			when[i] = i + r.Intn(5) - 3 + r.Intn(2)
		}
		before, held := twin(g), slices.Clone(when)
		if greedy.Fits(g, n, when) != fitting(g, n, when) {
			t.Fatalf("%v of %d, %v: %v", g, n, when, greedy.Fits(g, n, when))
		}
		if !same(g, before) || !slices.Equal(when, held) {
			t.Fatalf("%v, %v are changed", before, held)
		}
		if fitting(g, n, when) {
			fits++
			if time := greedy.Time(when); time < graph.Span(g) || time*n < graph.Work(g) {
				t.Fatalf("%v of %d, %v: time %d", g, n, when, time)
			}
		}
	}
	if fits < 10000 || fits > 90000 {
		t.Errorf("%d fit", fits)
	}
}

// anyFits tells whether one of all plans fits that put the steps from a place on
// to moments below a time.
func anyFits(g graph.Graph, workers, time int, when []int, from int) bool {
	if from == len(when) {
		return greedy.Fits(g, workers, when)
	}
	for moment := range time {
		when[from] = moment
		if anyFits(g, workers, time, when, from+1) {
			return true
		}
	}
	return false
}

func TestNoPlanTakesLess(t *testing.T) { // P15.2
	r := rand.New(rand.NewSource(153))
	for range 300 {
		g, n := drawn(r, 1+r.Intn(5), 1+r.Intn(4)), 1+r.Intn(3)
		least := max(graph.Span(g), (graph.Work(g)+n-1)/n)
		if anyFits(g, n, least-1, make([]int, len(g.Behind)), 0) {
			t.Fatalf("%v of %d: less than %d", g, n, least)
		}
		w, _ := greedy.Plan(g, n)
		if !anyFits(g, n, greedy.Time(w), make([]int, len(g.Behind)), 0) {
			t.Fatalf("%v of %d: none up to %d", g, n, greedy.Time(w))
		}
	}
}

// TestManySteps: steps that all find the same long row of full moments ahead
// are planned soon, too.
func TestManySteps(t *testing.T) { // R1
	const half = 1 << 17
	g := apart(2 * half)
	for i := range half {
		g.Behind[half+i] = []int{half - 1 - i}
	}
	for _, n := range []int{1, 2, 64} {
		w, e := greedy.Plan(g, n)
		if e != api.OK || greedy.Time(w) != 2*half/n {
			t.Fatalf("%d: time %d, %d", n, greedy.Time(w), e)
		}
		follows(t, g, n, w)
	}
}
