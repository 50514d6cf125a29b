package sched_test

import (
	"math/rand"
	"reflect"
	"slices"
	"testing"

	"haymow/api"
	"haymow/code"
	"haymow/eval"
	"haymow/path"
	"haymow/sample"
	"haymow/sched"
	"haymow/unfold"
)

const most = 1000 // instructions of a job

// given is what a job was begun with, and what the layers below say that it
// comes to.
type given struct {
	program []code.Func
	args    []int64
	limits  eval.Limits
	tree    unfold.Tree
	result  eval.Result
	killed  bool // while it ran
	report  sched.Report
}

// made is a job out of choices that does not do too much.
func made(t *testing.T, r *rand.Rand) *given {
	t.Helper()
	for {
		p := sample.Program(r.Intn)
		g := &given{program: p, args: sample.Args(r.Intn, p), limits: eval.Limits{Budget: []int{60, 1 + r.Intn(30)}[r.Intn(2)], Depth: r.Intn(5)}}
		if g.comesTo(t) && (g.tree.Need.Frames > 1 || r.Intn(4) == 0) {
			return g
		}
	}
}

// comesTo asks the layers below, and tells whether it is not too much.
func (g *given) comesTo(t *testing.T) bool {
	t.Helper()
	var e, f api.Errno
	g.tree, e = unfold.Unfold(g.program, g.args, g.limits, most)
	g.result, f = eval.Eval(g.program, g.args, g.limits, most)
	if e != f && e != api.ErrLong {
		t.Fatalf("%v of %v: %d, %d", g.program, g.args, e, f)
	}
	g.report = sched.Report{State: sched.Runs}
	return e == api.OK
}

// needs are the blocks and instructions of jobs in all.
func needs(jobs []*given) (sum unfold.Need) {
	for _, g := range jobs {
		n := g.tree.Need
		sum.Frames += n.Frames
		sum.Cells += n.Cells
		sum.Chunks += n.Chunks
		sum.Steps += n.Steps
	}
	return sum
}

func least(n unfold.Need) [3]int { return [3]int{n.Frames, n.Cells, n.Chunks} }

// enough is how many rounds are, by chapter 21.
func enough(n unfold.Need, workers int) int { return 1000 + 100*(n.Steps+10*n.Frames+10*workers) }

// game is a machine, and what was done with it.
type game struct {
	t      *testing.T
	config sched.Config
	m      *sched.Machine
	jobs   []*given
	away   int // the first job that may have blocks that are not home
}

func newGame(t *testing.T, c sched.Config) *game {
	t.Helper()
	return &game{t: t, config: c, m: machine(t, c)}
}

func (g *game) begin(job *given) {
	g.t.Helper()
	if g.m.Home() {
		g.away = len(g.jobs)
	}
	n, e := g.m.Begin(job.program, job.args, job.limits)
	if n != len(g.jobs) || e != api.OK {
		g.t.Fatalf("Begin: %d, %d", n, e)
	}
	g.jobs = append(g.jobs, job)
	g.looks()
}

// pick, and looks, which are called most often, do not ask for the test's
// Helper: that takes longer than a move.
func (g *game) pick(w, victim int) {
	if e := g.m.Pick(w, victim); e != api.OK {
		g.t.Fatalf("Pick: %d", e)
	}
	g.looks()
}

func (g *game) kill(n int) {
	g.t.Helper()
	if e := g.m.Kill(n); e != api.OK {
		g.t.Fatalf("Kill: %d", e)
	}
	if g.jobs[n].report.State == sched.Runs {
		g.jobs[n].killed = true
	}
	g.looks()
}

// looks holds all jobs against P16.3, as they are now.
func (g *game) looks() {
	if e := g.m.Fault(); e != api.OK {
		g.t.Fatalf("a fault: %d", e)
	}
	for n, job := range g.jobs {
		if job.report.Gone { // isHome looks at it again
			continue
		}
		r, e := g.m.Look(n)
		if e != api.OK {
			g.t.Fatalf("Look(%d): %d", n, e)
		}
		if r.State == job.report.State && !r.Gone {
			continue
		}
		g.turned(n, r)
		job.report = r
	}
}

// turned looks at a job that is not as it was.
func (g *game) turned(n int, r sched.Report) {
	g.t.Helper()
	job := g.jobs[n]
	if was := job.report; was.State != sched.Runs && was.State != r.State || was.Gone || r.State == sched.Runs {
		g.t.Fatalf("job %d was %v, and is %v", n, was, r)
	}
	want := sched.Report{State: r.State, Gone: r.Gone}
	switch r.State {
	case sched.Done:
		want = sched.Report{State: sched.Done, Value: job.result.Value, Fail: job.result.Fail, Told: r.Told, Gone: true}
		if !slices.Equal(r.Told, job.result.Told) {
			g.t.Fatalf("job %d told %v; want %v", n, r.Told, job.result.Told)
		}
		if did := g.did()[n]; !reflect.DeepEqual(did, entries(job.tree.Log)) {
			g.t.Fatalf("job %d did %v; want %v", n, did, job.tree.Log)
		}
	case sched.Killed:
		if !job.killed {
			g.t.Fatalf("job %d is killed, but nobody did it", n)
		}
	case sched.Exhausted:
		if g.isEnough() {
			g.t.Fatalf("job %d is exhausted, though %v are enough for %v", n, g.config.Many, needs(g.jobs[g.away:]))
		}
	}
	if !reflect.DeepEqual(r, want) {
		g.t.Fatalf("job %d is %v; want %v", n, r, want)
	}
}

// isEnough: has each worker enough for all jobs that are not home?
func (g *game) isEnough() bool {
	for class, many := range least(needs(g.jobs[g.away:])) {
		if g.config.Many[class] < many {
			return false
		}
	}
	return true
}

func entries(l []eval.Entry) map[string]int {
	steps := map[string]int{}
	for _, e := range l {
		if e.Steps > 0 {
			steps[path.Text(e.Path)] = e.Steps
		}
	}
	return steps
}

// did is how many instructions each task of each job did, each once, one by one.
func (g *game) did() []map[string]int {
	g.t.Helper()
	did := make([]map[string]int, len(g.jobs))
	for n := range did {
		did[n] = map[string]int{}
	}
	for _, e := range g.m.Events() {
		at := path.Text(e.Path)
		did[e.Job][at]++
		if did[e.Job][at] != e.Nth {
			g.t.Fatalf("job %d, task %s: the instruction %d is done behind %d others", e.Job, at, e.Nth, did[e.Job][at]-1)
		}
	}
	return did
}

// within holds what each job did against its unfolding.
func (g *game) within() {
	g.t.Helper()
	for n, did := range g.did() {
		most := entries(g.jobs[n].tree.Log)
		for at, steps := range did {
			if steps > most[at] {
				g.t.Fatalf("job %d, task %s: %d instructions of %d", n, at, steps, most[at])
			}
		}
	}
}

// comesHome does rounds, in each of which each worker is picked at least once,
// by a row of picks that round tells, till all is home, and holds all against
// P16.3.
func (g *game) comesHome(round func() []int, victim func() int) int {
	g.t.Helper()
	rounds := 0
	for ; !g.m.Home(); rounds++ {
		if rounds > enough(needs(g.jobs), g.config.Workers) {
			g.t.Fatalf("%v: %d rounds are not enough for %v", g.config, rounds, needs(g.jobs))
		}
		for _, w := range round() {
			g.pick(w, victim())
		}
	}
	g.isHome()
	return rounds
}

// isHome holds a machine that is home against P16.2 and P16.3.
func (g *game) isHome() {
	g.t.Helper()
	for n, job := range g.jobs {
		if r, _ := g.m.Look(n); r.State == sched.Runs || !reflect.DeepEqual(r, job.report) {
			g.t.Fatalf("home, but job %d is %v, and was %v", n, r, job.report)
		}
	}
	for w := range g.config.Workers {
		for class, many := range g.config.Many {
			if got := g.m.Free(w, class); got != many {
				g.t.Fatalf("home, but worker %d has %d blocks of class %d, of %d", w, got, class, many)
			}
		}
	}
	g.within()
	g.away = len(g.jobs)
}
