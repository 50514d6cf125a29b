package sched

import (
	"math/rand"
	"testing"

	"haymow/api"
	"haymow/asm"
	"haymow/eval"
	"haymow/sample"
	"haymow/unfold"
)

// acts are what a move may have done: how often it has done a step of the
// memory, an instruction, and an act on each block and row.
type acts struct {
	steps, events       int
	free, back          [api.MaxWorkers]int // blocks of all classes
	limbo, aside, begun int
}

func (m *Machine) acts() (a acts) {
	a.steps, a.events, a.begun = m.memory.Steps(), len(m.events), len(m.begun)
	for w, x := range m.workers {
		for class := range 3 {
			a.free[w] += m.pool.Free(w, class)
		}
		a.back[w] = m.pool.Remote(w)
		a.limbo += m.epochs.Limbo(w)
		a.aside += len(x.aside)
	}
	return a
}

func between(a, b int) int { return max(a-b, b-a) }

// many is how many acts lie between; of worker w, who may take home all that
// the others gave back.
func (a acts) many(was acts, w int) int {
	sum := between(a.steps, was.steps) + between(a.events, was.events) + between(a.begun, was.begun) + between(a.aside, was.aside)
	drained := was.back[w] > 0 && a.back[w] == 0
	if drained {
		a.free[w] -= was.back[w]
		sum++
	}
	for x := range a.free {
		sum += between(a.free[x], was.free[x])
		if x != w || !drained {
			sum += between(a.back[x], was.back[x])
		}
	}
	if a.limbo < was.limbo { // all that is ready goes with one announcing
		return sum + 1
	}
	return sum + a.limbo - was.limbo
}

func TestAMoveIsOneAct(t *testing.T) { // chapter 16: at most one step of the memory, one instruction, or one act on a block or a row
	r := rand.New(rand.NewSource(1))
	var seen acts
	for range 400 {
		p := sample.Program(r.Intn)
		args, l := sample.Args(r.Intn, p), eval.Limits{Budget: 30, Depth: r.Intn(4)}
		tree, e := unfold.Unfold(p, args, l, 2000)
		if e != api.OK || tree.Need.Frames < 3 {
			continue
		}
		c := Config{Workers: 1 + r.Intn(3), Kind: 1 + r.Intn(3), Room: 1 + r.Intn(3), Many: [3]int{tree.Need.Frames, tree.Need.Cells, tree.Need.Chunks}}
		m, _ := New(c)
		m.Begin(p, args, l)
		b := &bursts{Rand: r, workers: c.Workers}
		was := m.acts()
		m.till(t, b, func() bool {
			is := m.acts()
			if is.many(was, b.worker) > 1 {
				t.Fatalf("%v: a move did more than one thing:\n%v\n%v", c, was, is)
			}
			seen.aside = max(seen.aside, is.aside)
			seen.limbo = max(seen.limbo, is.limbo)
			seen.back[0] = max(seen.back[0], is.back[0])
			was = is
			return m.Home()
		})
	}
	if seen.aside < 2 || seen.limbo < 5 || seen.back[0] < 2 {
		t.Errorf("not seen: %v", seen)
	}
}

func TestRowsOfTheirOwn(t *testing.T) { // P16.2: what stands in a row is not at home, nor what has gone but was not given back
	m, _ := New(Config{Workers: 1, Kind: 1, Room: 1, Many: [3]int{2, 0, 0}})
	if m.workers[0].aside = []int64{1}; m.Home() {
		t.Error("home, though a task stands aside")
	}
	if m.workers[0].aside = nil; !m.Home() {
		t.Error("not home")
	}
	if m.workers[0].task = (&task{}); m.Home() {
		t.Error("home, though a worker has a task")
	}
	m.workers[0].task = nil
	if m.begun <- 1; m.Home() {
		t.Error("home, though nobody has taken what a job began")
	}
	<-m.begun
	if m.epochs.Retire(0, 1); m.Home() {
		t.Error("home, though something is retired")
	}
}

// bursts picks one worker for a while, then another one.
type bursts struct {
	*rand.Rand
	workers, worker, left int
}

func (b *bursts) next() int {
	if b.left == 0 {
		b.worker, b.left = b.Intn(b.workers), 1+b.Intn(60)
	}
	b.left--
	return b.worker
}

// till picks workers, till something is so.
func (m *Machine) till(t *testing.T, b *bursts, so func() bool) {
	t.Helper()
	for range 1000000 {
		if so() {
			return
		}
		m.Pick(b.next(), b.Intn(b.workers))
	}
	t.Fatal("it does not come to an end")
}

// givenBack: have all blocks been given back, also where they are not home?
func (m *Machine) givenBack() bool {
	for w := range m.workers {
		if m.epochs.Limbo(w) > 0 {
			return false
		}
	}
	for block := 1; ; block++ {
		at, _, _, _, ok := m.pool.Where(block)
		if !ok {
			return true
		}
		if _, e := m.memory.Load(at); e == api.OK {
			return false // its words are live: it is taken
		}
	}
}

func TestWhatOthersGaveBackCounts(t *testing.T) { // chapter 16: for all blocks that a job takes
	r := rand.New(rand.NewSource(2))
	p, _, _ := asm.Parse("func 0\nemit r0\nspawn r1 r0 f1\nfuture h1 r0 f1\ntouch r1 h1\nret r0\nfunc 0\nret r0")
	away := 0
	for range 300 {
		m, _ := New(Config{Workers: 2, Kind: 1 + r.Intn(3), Room: 2, Many: [3]int{3, 1, 1}})
		for job := range 20 {
			away += m.pool.Remote(0) + m.pool.Remote(1)
			m.Begin(p, nil, eval.Limits{Budget: 9, Depth: 1})
			m.till(t, &bursts{Rand: r, workers: 2}, func() bool { return m.jobs[job].report.Gone && m.givenBack() })
			if m.jobs[job].report.State != Done {
				t.Fatalf("job %d is %v", job, m.jobs[job].report)
			}
		}
	}
	if away < 100 {
		t.Errorf("only %d were away", away)
	}
}

func TestWhatOthersGaveBackCountsAtTheBeginning(t *testing.T) { // P16.1: for a job's first frame
	r := rand.New(rand.NewSource(3))
	p, _, _ := asm.Parse("func 0\nret r0")
	away := 0
	for range 300 {
		m, _ := New(Config{Workers: 2, Kind: 1 + r.Intn(3), Room: 2, Many: [3]int{1, 0, 0}})
		for range 10 {
			away += m.pool.Remote(0) + m.pool.Remote(1)
			for range 2 { // one of each worker's frame
				m.Begin(p, nil, eval.Limits{Budget: 9, Depth: 1})
			}
			for n, j := range m.jobs {
				if j.report.State == Exhausted {
					t.Fatalf("job %d is %v", n, j.report)
				}
			}
			m.till(t, &bursts{Rand: r, workers: 2}, func() bool { return len(m.tasks) == 0 && m.givenBack() })
		}
	}
	if away < 100 {
		t.Errorf("only %d were away", away)
	}
}

func TestNothingIsKept(t *testing.T) { // what the promises do not need
	m, _ := New(Config{Workers: 1, Kind: 1, Room: 2, Many: [3]int{3, 1, 1}})
	p, _, _ := asm.Parse("func 0\nfuture h1 r0 f1\nemit r0\nspawn r1 r0 f1\nret r0\nfunc 0\nret r0")
	m.Begin(p, nil, eval.Limits{Budget: 9, Depth: 1})
	m.till(t, &bursts{Rand: rand.New(rand.NewSource(3)), workers: 1}, m.Home)
	if j := m.jobs[0]; len(m.tasks) > 0 || j.program != nil || j.blocks != nil {
		t.Errorf("%v, %v", m.tasks, j)
	}
}

func TestNobodyStealsFromItself(t *testing.T) { // chapter 16
	m, _ := New(Config{Workers: 2, Kind: 1, Room: 2})
	cycle := func(victim int) int {
		was := m.memory.Steps()
		for looked := m.epochs.Now(); m.epochs.Now() == looked; {
			m.Pick(0, victim)
			m.Pick(1, -1)
		}
		return m.memory.Steps() - was
	}
	cycle(-1)
	if alone, itself, other := cycle(-1), cycle(0), cycle(1); alone != itself || other <= alone {
		t.Errorf("steps till the epoch is one more: %d, with itself as victim %d, with the other one %d", alone, itself, other)
	}
}

// spoiled is a machine in the midst of a job, of which a step or an act will
// come to an error.
func spoiled(t *testing.T, spoil func(m *Machine)) api.Errno {
	t.Helper()
	m, _ := New(Config{Workers: 1, Kind: 1, Room: 2, Many: [3]int{3, 1, 1}})
	p, _, _ := asm.Parse("func 0\nset r1 1\nfuture h1 r0 f1\nemit r0\nspawn r1 r0 f1\ntouch r1 h1\nsync\nret r0\nfunc 0\nret r0")
	if _, e := m.Begin(p, nil, eval.Limits{Budget: 9, Depth: 1}); e != api.OK {
		t.Fatalf("Begin: %d", e)
	}
	m.till(t, &bursts{Rand: rand.New(rand.NewSource(4)), workers: 1}, func() bool { return len(m.events) == 4 })
	if m.Fault() != api.OK {
		t.Fatalf("a fault ahead of all: %d", m.Fault())
	}
	spoil(m)
	for range 300 {
		m.Pick(0, 0)
	}
	return m.Fault()
}

func TestFault(t *testing.T) { // P16.2
	for name, c := range map[string]struct {
		spoil func(m *Machine)
		want  api.Errno
	}{
		"nothing":           {func(m *Machine) {}, api.OK},
		"a deque":           {func(m *Machine) { m.memory.Free(0, 4) }, api.ErrFree},
		"a claim":           {func(m *Machine) { m.memory.Free(m.claims+2, 1) }, api.ErrFree},
		"what is alive":     {func(m *Machine) { m.memory.Free(m.tasks[1].alive(), 1) }, api.ErrFree},
		"a cell":            {func(m *Machine) { m.memory.Free(m.tasks[1].at+3*frameWords, 3) }, api.ErrFree},
		"a number":          {func(m *Machine) { m.memory.Free(m.tasks[1].chunk, 1) }, api.ErrFree},
		"a block of others": {func(m *Machine) { m.epochs.Retire(0, 3) }, api.ErrState},
		"no block":          {func(m *Machine) { m.epochs.Retire(0, 99) }, api.ErrNone},
		"no worker":         {func(m *Machine) { m.minds(api.ErrArg); m.minds(api.ErrFree) }, api.ErrArg},
	} {
		if got := spoiled(t, c.spoil); got != c.want {
			t.Errorf("%s: %d; want %d", name, got, c.want)
		}
	}
}
