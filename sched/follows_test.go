package sched_test

import (
	"math/rand"
	"testing"

	"haymow/api"
	"haymow/eval"
	"haymow/sched"
)

// chance makes picks: bursts of one worker, so that the others stand still for
// long in the midst of what they do.
type chance struct {
	*rand.Rand
	workers, worker, left int
	longest               int
}

func (c *chance) next() int {
	if c.left == 0 {
		c.worker, c.left = c.Intn(c.workers), 1+c.Intn(c.longest)
	}
	c.left--
	return c.worker
}

func (c *chance) victim() int { return c.Intn(c.workers+2) - 1 }

// round is a row of picks with each worker in it, and perhaps others ahead.
func (c *chance) round() []int {
	row := c.Perm(c.workers)
	if c.Intn(3) > 0 {
		return row
	}
	for range c.Intn(2 * c.longest) {
		row = append(row, c.next())
	}
	return row
}

func newChance(r *rand.Rand, workers int) *chance {
	return &chance{Rand: r, workers: workers, longest: []int{1, 4, 30, 200}[r.Intn(4)]}
}

func config(r *rand.Rand, many [3]int) sched.Config {
	return sched.Config{Workers: 1 + r.Intn(5), Kind: 1 + r.Intn(kinds), Room: []int{1, 2, 3, 8, 100}[r.Intn(5)], Many: many}
}

// plays begins some jobs at some moments, kills some, and lets all come home.
func plays(g *game, c *chance, jobs []*given, kills int) {
	g.t.Helper()
	for _, job := range jobs {
		g.begin(job)
		for range c.Intn(300) {
			g.pick(c.next(), c.victim())
			if kills > 0 && c.Intn(100) < kills {
				g.kill(c.Intn(len(g.jobs)))
			}
		}
	}
	g.comesHome(c.round, c.victim)
}

func some(t *testing.T, r *rand.Rand) []*given {
	jobs := make([]*given, 1+r.Intn(4))
	for i := range jobs {
		jobs[i] = made(t, r)
	}
	return jobs
}

// count is how many jobs are of each state.
func count(states *[5]int, g *game) {
	for _, job := range g.jobs {
		states[job.report.State]++
	}
}

func TestWhateverIsPicked(t *testing.T) { // P16.3: just enough blocks
	r := rand.New(rand.NewSource(16))
	failed, many := 0, 0
	for range 3000 {
		jobs := some(t, r)
		c := config(r, least(needs(jobs)))
		g := newGame(t, c)
		plays(g, newChance(r, c.Workers), jobs, 0)
		for n, job := range g.jobs {
			if job.report.State != sched.Done {
				t.Fatalf("%v: job %d is %v", c, n, job.report)
			}
			if job.result.Fail != 0 {
				failed++
			}
			if job.tree.Need.Frames > 5 {
				many++
			}
		}
	}
	if failed < 500 || many < 500 {
		t.Errorf("only %d fail, only %d have many tasks", failed, many)
	}
}

func TestWhateverIsPickedAndKilled(t *testing.T) { // P16.3
	r := rand.New(rand.NewSource(17))
	var states [5]int
	for range 3000 {
		jobs := some(t, r)
		c := config(r, least(needs(jobs)))
		if r.Intn(2) == 0 { // fewer blocks than all need
			c.Many[r.Intn(3)] /= 2
		}
		g := newGame(t, c)
		plays(g, newChance(r, c.Workers), jobs, r.Intn(2))
		count(&states, g)
	}
	for _, s := range []sched.State{sched.Done, sched.Killed, sched.Exhausted} {
		if states[s] < 500 {
			t.Errorf("only %d jobs with state %d", states[s], s)
		}
	}
}

func TestJobsBehindJobs(t *testing.T) { // P16.3: they need as much as the greatest of them, if each begins behind the one ahead's coming home
	r := rand.New(rand.NewSource(18))
	for range 150 {
		jobs := make([]*given, 12)
		var many [3]int
		for i := range jobs {
			jobs[i] = made(t, r)
			for class, n := range least(jobs[i].tree.Need) {
				many[class] = max(many[class], n)
			}
		}
		c := config(r, many)
		g := newGame(t, c)
		x := newChance(r, c.Workers)
		for n, job := range jobs {
			g.begin(job)
			for range x.Intn(100) {
				g.pick(x.next(), x.victim())
			}
			killed := x.Intn(4) == 0
			if killed {
				g.kill(n)
			}
			g.comesHome(x.round, x.victim)
			if job.report.State == sched.Exhausted {
				t.Fatalf("%v: job %d, which needs %v, is exhausted", c, n, job.tree.Need)
			}
		}
	}
}

func TestOneWorkerAlone(t *testing.T) { // P16.3: it does all jobs, within as many picks as rounds were enough
	r := rand.New(rand.NewSource(19))
	for range 1500 {
		jobs := some(t, r)
		c := config(r, least(needs(jobs)))
		g := newGame(t, c)
		for _, job := range jobs {
			g.begin(job)
		}
		alone, victim := r.Intn(c.Workers), r.Intn(c.Workers)
		for picks := 0; g.runs(); picks++ {
			if picks > enough(needs(jobs), c.Workers) {
				t.Fatalf("%v: %d picks of worker %d are not enough for %v", c, picks, alone, needs(jobs))
			}
			g.pick(alone, victim)
		}
		if c.Workers > 1 && g.m.Home() {
			t.Fatalf("%v: home without the others", c)
		}
		x := newChance(r, c.Workers)
		g.comesHome(x.round, x.victim)
		for n, job := range jobs {
			if job.report.State != sched.Done {
				t.Fatalf("%v: job %d is %v", c, n, job.report)
			}
		}
	}
}

// runs: does a job run?
func (g *game) runs() bool {
	for _, job := range g.jobs {
		if job.report.State == sched.Runs {
			return true
		}
	}
	return false
}

func TestTheSameAgain(t *testing.T) { // R5
	r := rand.New(rand.NewSource(20))
	for range 300 {
		jobs := some(t, r)
		c := config(r, least(needs(jobs)))
		seed := r.Int63()
		var done [2]string
		for i := range done {
			g := newGame(t, c)
			again := make([]*given, len(jobs))
			for k, job := range jobs {
				again[k] = &given{program: job.program, args: job.args, limits: job.limits}
				again[k].comesTo(t)
			}
			plays(g, newChance(rand.New(rand.NewSource(seed)), c.Workers), again, 1)
			done[i] = told(g.m.Events())
		}
		if done[0] != done[1] {
			t.Fatalf("%v: the same picks did\n%s, and\n%s", c, done[0], done[1])
		}
	}
}

var narrow = eval.Limits{Budget: 20, Depth: 3}

// texts are jobs that come to each of what a task may wait for, and end with.
var texts = []string{
	"func 0;ret r0",
	"func 0;emit r0;spawn r1 r0 f1;emit r0;sync;emit r1;ret r1;func 0;set r1 7;emit r1;ret r1",
	"func 0;future h1 r0 f1;touch r1 h1;ret r1;func 0;set r1 7;ret r1",
	"func 0;future h1 r0 f1;spawn r1 r0 f2;spawn r2 r0 f2;touch r3 h1;ret r2;func 0;set r1 7;ret r1;func 0;touch r1 h1;ret r1",
	"func 0;spawn r1 r0 f1;sync;spawn r2 r0 f1;ret r2;func 0;ret r0",
	"func 0;spawn r1 r0 f1;fail 20;func 0;emit r0;spawn r0 r0 f2;ret r0;func 0;fail 21",
	"func 0;future h1 r0 f1;spawn r1 r0 f2;touch r1 h1;ret r0;func 0;div r0 r0 r0;ret r0;func 0;touch r0 h1;ret r0",
	"func 0;spawn r1 r0 f1;spawn r2 r0 f1;spawn r3 r0 f1;sync;add r1 r2 r3;ret r1;func 0;set r1 3;ret r1",
}

func parsed(t *testing.T, text string, l eval.Limits) *given {
	t.Helper()
	job := &given{program: program(t, text), limits: l}
	if !job.comesTo(t) {
		t.Fatalf("%s: too much", text)
	}
	return job
}

// schedule picks one of two workers, from each of some places on the other one,
// and from the last of them on both in turn.
func schedule(g *game, places []int) {
	g.t.Helper()
	w := 0
	for picks := 0; len(places) > 0; picks++ {
		for len(places) > 0 && places[0] == picks {
			places = places[1:]
			w = 1 - w
		}
		g.pick(w, 1-w)
	}
	victim := 0
	g.comesHome(func() []int { return []int{0, 1} }, func() int {
		victim = 1 - victim
		return victim
	})
}

func TestEachPlaceToStandStill(t *testing.T) { // P16.3: two workers, of whom each stands still at each place, and again at others
	for kind := 1; kind <= kinds; kind++ {
		for _, text := range texts {
			job := parsed(t, text, narrow)
			c := sched.Config{Workers: 2, Kind: kind, Room: 2, Many: least(job.tree.Need)}
			for first := range 60 {
				for second := first; second < 100; second += 1 + second/30 {
					for _, more := range []int{1, 30} {
						again, g := *job, newGame(t, c)
						g.begin(&again)
						schedule(g, []int{first, second, second + more})
						if again.report.State != sched.Done {
							t.Fatalf("kind %d, %s, places %d, %d and %d more: %v", kind, text, first, second, more, again.report)
						}
					}
				}
			}
		}
	}
}

// A pop of kinds 2 and 3 that takes long hands out again, and shows to all, what
// others have done since, and perhaps even sent home.
func TestAPopThatTakesLong(t *testing.T) { // P16.3
	jobs := []*given{
		parsed(t, "func 0;spawn r1 r0 f1;spawn r1 r0 f1;spawn r1 r0 f1;spawn r1 r0 f1;ret r1;func 0;emit r0;ret r0", narrow),
		parsed(t, "func 0;spawn r1 r0 f1;future h2 r0 f1;spawn r1 r0 f1;touch r1 h2;ret r1;func 0;emit r0;spawn r0 r0 f2;ret r0;func 0;ret r0", narrow),
	}
	for kind := 2; kind <= kinds; kind++ {
		for first := 0; first < 120; first++ {
			for _, others := range []int{10, 40, 200} {
				g := newGame(t, sched.Config{Workers: 3, Kind: kind, Room: 8, Many: least(needs(append(jobs, jobs...)))})
				for k := range 4 {
					again := *jobs[k%2]
					g.begin(&again)
					for range first {
						g.pick(0, 1)
					}
					for i := range others { // the others do all, while worker 0 stands still
						g.pick(1+i%2, 0)
					}
				}
				x := &chance{Rand: rand.New(rand.NewSource(int64(first))), workers: 3, longest: 10}
				g.comesHome(x.round, x.victim)
				for n, job := range g.jobs {
					if job.report.State != sched.Done {
						t.Fatalf("kind %d, %d moves: job %d is %v", kind, first, n, job.report)
					}
				}
			}
		}
	}
}

func TestKilledAtEachMoment(t *testing.T) { // P16.3: one by one, and with all picked in turn
	for kind := 1; kind <= kinds; kind++ {
		for _, text := range texts {
			for moment := range 120 {
				job := parsed(t, text, narrow)
				other := parsed(t, texts[1], narrow)
				g := newGame(t, sched.Config{Workers: 2, Kind: kind, Room: 1, Many: least(needs([]*given{job, other}))})
				g.begin(job)
				g.begin(other)
				for i := range moment {
					g.pick(i%2, (i+1)%2)
				}
				g.kill(0)
				events := len(g.did()[0])
				x := &chance{Rand: rand.New(rand.NewSource(1)), workers: 2, longest: 1}
				g.comesHome(x.round, x.victim)
				if job.report.State == sched.Killed && len(g.did()[0]) != events {
					t.Fatalf("kind %d, %s: killed behind %d moves, it goes on", kind, text, moment)
				}
				if other.report.State != sched.Done {
					t.Fatalf("kind %d, %s: the other job is %v", kind, text, other.report)
				}
			}
		}
	}
}

func TestGreatAndMany(t *testing.T) { // P16.3: 64 jobs, deep and wide ones
	texts := []string{
		"func 1;zero r0 4;set r1 -1;add r0 r0 r1;spawn r2 r0 f0;add r2 r2 r0;emit r2;ret r2",
		"func 1;future h0 r0 f1;zero r0 6;set r1 -1;add r0 r0 r1;spawn r2 r0 f1;jump 1;sync;touch r3 h0;ret r3;func 1;emit r0;ret r0",
	}
	for kind := 1; kind <= kinds; kind++ {
		for workers, many := range map[int][3]int{2: {1000, 1000, 1000}, 64: {200, 4, 60}} {
			g := newGame(t, sched.Config{Workers: workers, Kind: kind, Room: 4, Many: many})
			for i := range api.MaxJobs {
				job := &given{program: program(t, texts[i%2]), args: []int64{30}, limits: eval.Limits{Budget: 200, Depth: 30}}
				if !job.comesTo(t) {
					t.Fatal("too much")
				}
				g.begin(job)
				if i%7 == 6 && workers == 2 || i == api.MaxJobs-1 {
					x := newChance(rand.New(rand.NewSource(int64(i))), workers)
					g.comesHome(x.round, x.victim)
				}
			}
			var states [5]int
			count(&states, g)
			if states[sched.Done] < 20 {
				t.Errorf("kind %d, %d workers: %v", kind, workers, states)
			}
		}
	}
}
