package jobs_test

import (
	"math/rand"
	"reflect"
	"slices"
	"testing"

	"haymow/api"
	"haymow/code"
	"haymow/eval"
	"haymow/jobs"
	"haymow/sample"
	"haymow/sched"
	"haymow/unfold"
)

const most = 1000 // instructions of a job

// given is a job, and what the layers below say that it comes to.
type given struct {
	program []code.Func
	bytes   []byte
	args    []int64
	result  eval.Result
	need    unfold.Need
	reply   jobs.Reply
	may     bool // be killed: while it ran, it was cancelled, or all was shut
}

// made is a job out of choices that does not do too much.
func made(t *testing.T, r *rand.Rand, l eval.Limits) *given {
	t.Helper()
	for {
		p := sample.Program(r.Intn)
		args := sample.Args(r.Intn, p)
		tree, e := unfold.Unfold(p, args, l, most)
		if e != api.OK || tree.Need.Frames == 1 && r.Intn(4) > 0 {
			continue
		}
		result, e := eval.Eval(p, args, l, most)
		if e != api.OK {
			t.Fatalf("%v: %d", p, e)
		}
		b, e := code.Write(p)
		if e != api.OK {
			t.Fatalf("%v: %d", p, e)
		}
		return &given{program: p, bytes: b, args: args, result: result, need: tree.Need, reply: jobs.Reply{State: sched.Runs}}
	}
}

// game is a runtime, and a machine with which all is done that the runtime is
// asked for.
type game struct {
	t      *testing.T
	r      *jobs.Runtime
	m      *sched.Machine
	limits eval.Limits
	jobs   []*given
	shut   bool
}

func (g *game) submit(x *given) {
	g.t.Helper()
	n, e := g.r.Submit(x.bytes, x.args)
	if g.shut {
		if n != 0 || e != api.ErrState {
			g.t.Fatalf("shut: %d, %d", n, e)
		}
		return
	}
	if m, f := g.m.Begin(x.program, x.args, g.limits); n != m || e != f || n != len(g.jobs) {
		g.t.Fatalf("Submit: %d, %d; want %d, %d", n, e, m, f)
	}
	g.jobs = append(g.jobs, x)
}

func (g *game) cancel(n int) {
	g.t.Helper()
	if e, f := g.r.Cancel(n), g.m.Kill(n); e != f {
		g.t.Fatalf("Cancel(%d): %d; want %d", n, e, f)
	}
	if n < len(g.jobs) && g.jobs[n].reply.State == sched.Runs {
		g.jobs[n].may = true
	}
}

func (g *game) shuts() {
	g.t.Helper()
	if e := g.r.Shut(); e != api.OK {
		g.t.Fatalf("Shut: %d", e)
	}
	g.shut = true
	for n := range g.jobs {
		g.m.Kill(n)
		if g.jobs[n].reply.State == sched.Runs {
			g.jobs[n].may = true
		}
	}
}

func (g *game) pick(w, victim int) {
	if e, f := g.r.Pick(w, victim), g.m.Pick(w, victim); e != f {
		g.t.Fatalf("Pick(%d, %d): %d; want %d", w, victim, e, f)
	}
}

// looks holds all replies against P17.3, and all else against the machine.
func (g *game) looks(enough bool) {
	g.t.Helper()
	var want jobs.Stats
	for n, job := range g.jobs {
		got, e := g.r.Poll(n)
		if e != api.OK {
			g.t.Fatalf("Poll(%d): %d", n, e)
		}
		g.replies(n, got, enough)
		job.reply = got
		want.Jobs++
		switch got.State {
		case sched.Runs:
			want.Runs++
		case sched.Done:
			want.Done++
		case sched.Killed:
			want.Killed++
		case sched.Exhausted:
			want.Exhausted++
		}
	}
	events := g.m.Events()
	want.Instructions, want.Home, want.Shut = len(events), g.m.Home(), g.shut
	if got := g.r.Stats(); got != want {
		g.t.Fatalf("%+v; want %+v", got, want)
	}
	if !reflect.DeepEqual(g.r.Events(), events) || g.r.Fault() != api.OK {
		g.t.Fatalf("a fault: %d, or other events than the machine's", g.r.Fault())
	}
}

func (g *game) replies(n int, got jobs.Reply, enough bool) {
	g.t.Helper()
	job := g.jobs[n]
	if was := job.reply; was.State != sched.Runs && !reflect.DeepEqual(was, got) {
		g.t.Fatalf("job %d was %v, and is %v", n, was, got)
	}
	want := jobs.Reply{State: got.State}
	switch {
	case got.State == sched.Done:
		want = jobs.Reply{State: sched.Done, Value: job.result.Value, Fail: job.result.Fail, Told: job.result.Told}
	case got.State == sched.Killed && !job.may:
		g.t.Fatalf("job %d is killed, but nobody did it", n)
	case got.State == sched.Exhausted && enough:
		g.t.Fatalf("job %d is exhausted, but there are enough blocks", n)
	}
	if !slices.Equal(got.Told, want.Told) {
		g.t.Fatalf("job %d told %v; want %v", n, got.Told, want.Told)
	}
	want.Told = got.Told
	if !reflect.DeepEqual(got, want) {
		g.t.Fatalf("job %d is %v; want %v", n, got, want)
	}
}

// plays submits jobs, picks, cancels now and then, shuts perhaps, and lets all
// come home.
func (g *game) plays(r *rand.Rand, jobs []*given, workers int, enough bool) {
	g.t.Helper()
	kills, shuts := r.Intn(3) == 0, r.Intn(3) == 0
	for _, job := range jobs {
		g.submit(job)
		for range r.Intn(30) {
			for range r.Intn(12) {
				g.pick(r.Intn(workers+1), r.Intn(workers+2)-1)
			}
			if kills && r.Intn(8) == 0 {
				g.cancel(r.Intn(len(g.jobs) + 1))
			}
			if shuts && r.Intn(40) == 0 {
				g.shuts()
			}
			g.looks(enough)
		}
	}
	for rounds := 0; !g.r.Stats().Home; rounds++ {
		if rounds > 100000 {
			g.t.Fatal("all does not come home")
		}
		for w := range workers {
			g.pick(w, r.Intn(workers))
		}
	}
	g.looks(enough)
	if s := g.r.Stats(); s.Runs != 0 {
		g.t.Fatalf("home, but %+v", s)
	}
}

func TestWhateverIsAsked(t *testing.T) { // P17.1 to P17.3
	r := rand.New(rand.NewSource(17))
	var states [sched.Exhausted + 1]int
	for range 600 {
		l := eval.Limits{Budget: []int{60, 1 + r.Intn(30)}[r.Intn(2)], Depth: r.Intn(5)}
		row := make([]*given, 1+r.Intn(4))
		c := sched.Config{Workers: 1 + r.Intn(4), Kind: 1 + r.Intn(kinds), Room: 1 + r.Intn(5)}
		for i := range row {
			row[i] = made(t, r, l)
			c.Many[0] += row[i].need.Frames
			c.Many[1] += row[i].need.Cells
			c.Many[2] += row[i].need.Chunks
		}
		enough := r.Intn(2) == 0
		if !enough {
			c.Many[r.Intn(3)] /= 2
		}
		m, e := sched.New(c)
		if e != api.OK {
			t.Fatalf("%v: %d", c, e)
		}
		g := &game{t: t, r: runtime(t, c, l), m: m, limits: l}
		g.plays(r, row, c.Workers, enough)
		for _, job := range g.jobs {
			states[job.reply.State]++
		}
	}
	for _, s := range []sched.State{sched.Done, sched.Killed, sched.Exhausted} {
		if states[s] < 100 {
			t.Errorf("only %d jobs with state %d", states[s], s)
		}
	}
}
