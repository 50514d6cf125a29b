package sched_test

import (
	"math"
	"reflect"
	"slices"
	"strconv"
	"strings"
	"testing"

	"haymow/api"
	"haymow/asm"
	"haymow/code"
	"haymow/eval"
	"haymow/path"
	"haymow/sched"
)

var wide = eval.Limits{Budget: api.MaxBudget, Depth: api.MaxDepth}

const kinds = 3

// program is that of lines with ; between.
func program(t *testing.T, text string) []code.Func {
	t.Helper()
	p, line, e := asm.Parse(strings.ReplaceAll(text, ";", "\n"))
	if e != api.OK {
		t.Fatalf("%s: line %d: %d", text, line, e)
	}
	return p
}

func machine(t *testing.T, c sched.Config) *sched.Machine {
	t.Helper()
	m, e := sched.New(c)
	if e != api.OK || m == nil {
		t.Fatalf("%v: %d", c, e)
	}
	return m
}

// roomy is a config with blocks enough for what the tests below begin.
func roomy(workers int) sched.Config {
	return sched.Config{Workers: workers, Kind: 1, Room: 4, Many: [3]int{20, 20, 20}}
}

func begins(t *testing.T, m *sched.Machine, text string, args ...int64) int {
	t.Helper()
	n, e := m.Begin(program(t, text), args, wide)
	if e != api.OK {
		t.Fatalf("%s of %v: %d", text, args, e)
	}
	return n
}

// picks picks one worker again and again.
func picks(t *testing.T, m *sched.Machine, w, victim, many int) {
	t.Helper()
	for range many {
		if e := m.Pick(w, victim); e != api.OK {
			t.Fatalf("Pick(%d, %d): %d", w, victim, e)
		}
	}
}

// rounds picks all workers in turn, till all is home.
func rounds(t *testing.T, m *sched.Machine, workers int) {
	t.Helper()
	for k := range 100000 {
		if m.Home() {
			return
		}
		for w := range workers {
			picks(t, m, w, (w+k+1)%workers, 1)
		}
	}
	t.Fatal("all does not come home")
}

func look(t *testing.T, m *sched.Machine, job int) sched.Report {
	t.Helper()
	r, e := m.Look(job)
	if e != api.OK {
		t.Fatalf("Look(%d): %d", job, e)
	}
	return r
}

func looksLike(t *testing.T, m *sched.Machine, job int, want sched.Report) {
	t.Helper()
	got := look(t, m, job)
	if !slices.Equal(got.Told, want.Told) {
		t.Errorf("job %d told %v; want %v", job, got.Told, want.Told)
	}
	got.Told, want.Told = nil, nil
	if !reflect.DeepEqual(got, want) {
		t.Errorf("job %d: %v; want %v", job, got, want)
	}
}

// told is what was done: of each event the job, the path, and which one it was.
func told(l []sched.Event) string {
	words := make([]string, len(l))
	for i, e := range l {
		words[i] = strconv.Itoa(e.Job) + "/" + path.Text(e.Path) + "/" + strconv.Itoa(e.Nth)
	}
	return strings.Join(words, " ")
}

func TestExample(t *testing.T) { // example 1
	m := machine(t, sched.Config{Workers: 1, Kind: 1, Room: 1, Many: [3]int{1, 0, 1}})
	if n, e := m.Begin(program(t, "func 1;emit r0;ret r0"), []int64{7}, eval.Limits{Budget: 2}); n != 0 || e != api.OK {
		t.Fatalf("Begin: %d, %d", n, e)
	}
	looksLike(t, m, 0, sched.Report{State: sched.Runs})
	picks(t, m, 0, 0, 100)
	looksLike(t, m, 0, sched.Report{State: sched.Done, Value: 7, Told: []int64{7}, Gone: true})
	if !m.Home() || m.Fault() != api.OK || told(m.Events()) != "0/./1 0/./2" {
		t.Errorf("%v, %d, %s", m.Home(), m.Fault(), told(m.Events()))
	}
}

func TestStates(t *testing.T) {
	if sched.Runs != 1 || sched.Done != 2 || sched.Killed != 3 || sched.Exhausted != 4 {
		t.Error("the states' numbers")
	}
}

func TestNew(t *testing.T) { // P16.1
	for _, c := range []struct {
		config sched.Config
		want   api.Errno
	}{
		{sched.Config{Workers: 1, Kind: 1, Room: 1}, api.OK},
		{sched.Config{Workers: 64, Kind: 3, Room: 1}, api.OK},
		{sched.Config{Workers: 1, Kind: 2, Room: 1000, Many: [3]int{1000, 1000, 1000}}, api.OK},
		{sched.Config{Workers: 64, Kind: 2, Room: 1000}, api.OK},
		// 64 workers with 1024 words each, and one word more.
		{sched.Config{Workers: 64, Kind: 1, Room: 1000, Many: [3]int{1, 3, 2}}, api.OK},
		{sched.Config{Workers: 64, Kind: 1, Room: 999, Many: [3]int{0, 1, 4}}, api.OK},
		{sched.Config{Workers: 64, Kind: 1, Room: 1000, Many: [3]int{2, 2, 2}}, api.OK},
		{sched.Config{Workers: 64, Kind: 1, Room: 1000, Many: [3]int{1, 2, 3}}, api.ErrLong},
		{sched.Config{Workers: 64, Kind: 1, Room: 1000, Many: [3]int{1, 4, 2}}, api.ErrLong},
		{sched.Config{Workers: 64, Kind: 1, Room: 1000, Many: [3]int{3, 3, 1}}, api.ErrLong},
		{sched.Config{Workers: 64, Kind: 1, Room: 1000, Many: [3]int{1000, 1000, 1000}}, api.ErrLong},
		{sched.Config{Workers: 64, Kind: 1, Room: 1, Many: [3]int{0, 0, 1000}}, api.ErrLong},
		{sched.Config{}, api.ErrArg},
		{sched.Config{Workers: 0, Kind: 1, Room: 1}, api.ErrArg},
		{sched.Config{Workers: 65, Kind: 1, Room: 1}, api.ErrArg},
		{sched.Config{Workers: -1, Kind: 1, Room: 1}, api.ErrArg},
		{sched.Config{Workers: math.MaxInt, Kind: 1, Room: 1}, api.ErrArg},
		{sched.Config{Workers: math.MinInt, Kind: 1, Room: 1}, api.ErrArg},
		{sched.Config{Workers: 1, Kind: 0, Room: 1}, api.ErrArg},
		{sched.Config{Workers: 1, Kind: 4, Room: 1}, api.ErrArg},
		{sched.Config{Workers: 1, Kind: -1, Room: 1}, api.ErrArg},
		{sched.Config{Workers: 1, Kind: 1, Room: 0}, api.ErrArg},
		{sched.Config{Workers: 1, Kind: 1, Room: 1001}, api.ErrArg},
		{sched.Config{Workers: 1, Kind: 1, Room: math.MinInt}, api.ErrArg},
		{sched.Config{Workers: 1, Kind: 1, Room: 1, Many: [3]int{-1, 1, 1}}, api.ErrArg},
		{sched.Config{Workers: 1, Kind: 1, Room: 1, Many: [3]int{1, 1001, 1}}, api.ErrArg},
		{sched.Config{Workers: 1, Kind: 1, Room: 1, Many: [3]int{1, 1, -1}}, api.ErrArg},
		{sched.Config{Workers: 1, Kind: 1, Room: 1, Many: [3]int{1, 1, math.MaxInt}}, api.ErrArg},
		// Of the two errors the first one counts.
		{sched.Config{Workers: 64, Kind: 1, Room: 1000, Many: [3]int{1000, 1000, 1001}}, api.ErrArg},
		{sched.Config{Workers: 65, Kind: 1, Room: 1000, Many: [3]int{1000, 1000, 1000}}, api.ErrArg},
	} {
		m, e := sched.New(c.config)
		if e != c.want || (m == nil) != (e != api.OK) {
			t.Errorf("New(%v): %d; want %d", c.config, e, c.want)
		}
		if e == api.OK && (!m.Home() || m.Fault() != api.OK || len(m.Events()) != 0 || m.Free(0, 0) != c.config.Many[0]) {
			t.Errorf("New(%v): %v, %d, %v", c.config, m.Home(), m.Fault(), m.Events())
		}
	}
}

func TestBegin(t *testing.T) { // P16.1, R2
	m := machine(t, roomy(2))
	right := program(t, "func 1;ret r0")
	for _, c := range []struct {
		p    []code.Func
		args []int64
		l    eval.Limits
	}{
		{nil, nil, wide},
		{[]code.Func{{}}, nil, wide},
		{[]code.Func{{Arity: -1}}, nil, wide},
		{right, nil, wide},
		{right, []int64{1, 2}, wide},
		{right, []int64{1}, eval.Limits{}},
		{right, []int64{1}, eval.Limits{Budget: api.MaxBudget + 1}},
		{right, []int64{1}, eval.Limits{Budget: 1, Depth: api.MaxDepth + 1}},
		{right, []int64{1}, eval.Limits{Budget: 1, Depth: -1}},
	} {
		if n, e := m.Begin(c.p, c.args, c.l); n != 0 || e != api.ErrArg {
			t.Errorf("Begin(%v, %v, %v): %d, %d", c.p, c.args, c.l, n, e)
		}
	}
	if _, e := m.Look(0); e != api.ErrNone || !m.Home() {
		t.Error("what may not run began")
	}
	for job := range api.MaxJobs {
		if n, e := m.Begin(right, []int64{int64(job)}, wide); n != job || e != api.OK {
			t.Fatalf("job %d: %d, %d", job, n, e)
		}
	}
	if n, e := m.Begin(right, []int64{1}, wide); n != 0 || e != api.ErrFull {
		t.Errorf("one job too many: %d, %d", n, e)
	}
	if n, e := m.Begin(right, nil, wide); n != 0 || e != api.ErrArg {
		t.Errorf("one job too many that may not run: %d, %d", n, e)
	}
	rounds(t, m, 2)
	if n, e := m.Begin(right, []int64{1}, wide); n != 0 || e != api.ErrFull {
		t.Errorf("one job too many behind the end of all: %d, %d", n, e)
	}
	if _, e := m.Look(api.MaxJobs); e != api.ErrNone {
		t.Errorf("a job that has not begun: %d", e)
	}
	for job := range api.MaxJobs { // of 20 frames each
		want := sched.Report{State: sched.Done, Value: int64(job), Gone: true}
		if job >= 40 {
			want = sched.Report{State: sched.Exhausted, Gone: true}
		}
		looksLike(t, m, job, want)
	}
}

func TestFirstFrames(t *testing.T) { // P16.1: a job's first frame is of the worker with the job's number's rest by the workers
	m := machine(t, sched.Config{Workers: 3, Kind: 2, Room: 1, Many: [3]int{2, 1, 1}})
	left := []int{2, 2, 2}
	for job := range 6 {
		begins(t, m, "func 0;ret r0")
		left[job%3]--
		for w := range left {
			if m.Free(w, 0) != left[w] || m.Free(w, 1) != 1 || m.Free(w, 2) != 1 {
				t.Fatalf("behind job %d worker %d has %d frames; want %d", job, w, m.Free(w, 0), left[w])
			}
		}
		looksLike(t, m, job, sched.Report{State: sched.Runs})
	}
	if begins(t, m, "func 0;ret r0") != 6 {
		t.Error("a job without a frame has a number, too")
	}
	looksLike(t, m, 6, sched.Report{State: sched.Exhausted, Gone: true})
	if m.Kill(6) != api.OK {
		t.Error("Kill")
	}
	looksLike(t, m, 6, sched.Report{State: sched.Exhausted, Gone: true})
	rounds(t, m, 3)
	begins(t, m, "func 0;ret r0")
	looksLike(t, m, 7, sched.Report{State: sched.Runs})
}

func TestWithoutFrames(t *testing.T) { // P16.1
	m := machine(t, sched.Config{Workers: 1, Kind: 1, Room: 1})
	begins(t, m, "func 0;ret r0")
	looksLike(t, m, 0, sched.Report{State: sched.Exhausted, Gone: true})
	if !m.Home() || m.Fault() != api.OK {
		t.Errorf("%v, %d", m.Home(), m.Fault())
	}
	picks(t, m, 0, 0, 100)
	if len(m.Events()) != 0 || !m.Home() {
		t.Error("a job without a frame did something")
	}
}

func TestPick(t *testing.T) { // P16.1
	m := machine(t, roomy(2))
	begins(t, m, "func 0;ret r0")
	for _, w := range []int{-1, 2, 64, math.MaxInt, math.MinInt} {
		for range 100 {
			if e := m.Pick(w, 0); e != api.ErrArg {
				t.Fatalf("Pick(%d, 0): %d", w, e)
			}
		}
	}
	if len(m.Events()) != 0 {
		t.Error("a worker that is none does something")
	}
	for i := range 200 { // any victim is let in
		victim := []int{-1, 0, 1, 2, math.MaxInt, math.MinInt}[i%6]
		if e := m.Pick(i%2, victim); e != api.OK {
			t.Fatalf("Pick(%d, %d): %d", i%2, victim, e)
		}
	}
	if !m.Home() || look(t, m, 0).State != sched.Done {
		t.Error("what the victims hinder")
	}
}

func TestKill(t *testing.T) { // P16.1
	m := machine(t, roomy(1))
	const text = "func 0;emit r0;emit r0;jump 0"
	begins(t, m, text)
	begins(t, m, "func 0;ret r0")
	begins(t, m, text)
	for _, job := range []int{-1, 3, 64, math.MaxInt, math.MinInt} {
		if e := m.Kill(job); e != api.ErrNone {
			t.Errorf("Kill(%d): %d", job, e)
		}
	}
	if e := m.Kill(2); e != api.OK { // ahead of its first move
		t.Errorf("Kill: %d", e)
	}
	looksLike(t, m, 2, sched.Report{State: sched.Killed})
	looksLike(t, m, 0, sched.Report{State: sched.Runs})
	for len(m.Events()) < 3 {
		picks(t, m, 0, 0, 1)
	}
	if e := m.Kill(0); e != api.OK { // in the midst of it
		t.Errorf("Kill: %d", e)
	}
	looksLike(t, m, 0, sched.Report{State: sched.Killed})
	rounds(t, m, 1)
	if got := told(m.Events()); got != "0/./1 0/./2 0/./3 1/./1" {
		t.Errorf("done, also by jobs that were killed: %s", got)
	}
	for range 2 { // what is over stays as it is
		looksLike(t, m, 0, sched.Report{State: sched.Killed, Gone: true})
		looksLike(t, m, 1, sched.Report{State: sched.Done, Gone: true})
		looksLike(t, m, 2, sched.Report{State: sched.Killed, Gone: true})
		for job := range 3 {
			if e := m.Kill(job); e != api.OK {
				t.Errorf("Kill(%d): %d", job, e)
			}
		}
	}
}

func TestKilledAheadOfTaking(t *testing.T) { // chapter 16: tasks of jobs that are killed end without doing more
	for _, text := range []string{"spawn r1 r0 f1", "future h1 r0 f1", "emit r0"} {
		for moves := range 6 {
			m := machine(t, roomy(1))
			begins(t, m, "func 0;set r1 1;"+text+";ret r1;func 0;ret r0")
			for len(m.Events()) < 2 {
				picks(t, m, 0, 0, 1)
			}
			picks(t, m, 0, 0, moves)
			m.Kill(0)
			left := [3]int{m.Free(0, 0), m.Free(0, 1), m.Free(0, 2)}
			for !m.Home() {
				picks(t, m, 0, 0, 1)
				for class, many := range left {
					if m.Free(0, class) < many {
						t.Fatalf("%s, killed %d moves behind it, takes a block of class %d", text, moves, class)
					}
				}
			}
		}
	}
}

func TestExhausted(t *testing.T) { // P16.1: for each class
	const text = "func 0;spawn r1 r0 f1;future h1 r0 f1;sync;emit r0;emit r0;emit r0;emit r0;emit r0;ret r0;func 0;ret r0"
	enough := [3]int{3, 1, 2}
	for class := range enough {
		for less := range enough[class] + 1 {
			many := enough
			many[class] -= less
			m := machine(t, sched.Config{Workers: 1, Kind: 1, Room: 1, Many: many})
			begins(t, m, text)
			rounds(t, m, 1)
			want := sched.Report{State: sched.Exhausted, Gone: true}
			if less == 0 {
				want = sched.Report{State: sched.Done, Told: make([]int64, 5), Gone: true}
			}
			looksLike(t, m, 0, want)
			if e := m.Kill(0); e != api.OK {
				t.Errorf("Kill: %d", e)
			}
			looksLike(t, m, 0, want)
			if m.Fault() != api.OK {
				t.Errorf("%v: %d", many, m.Fault())
			}
		}
	}
}

func TestLook(t *testing.T) { // P16.1, R2
	m := machine(t, roomy(2))
	begins(t, m, "func 1;emit r0;spawn r1 r0 f1;emit r0;ret r1;func 0;emit r0;fail 33", 5)
	begins(t, m, "func 0;set r1 -4;ret r1")
	for _, job := range []int{-1, 2, math.MaxInt, math.MinInt} {
		if r, e := m.Look(job); e != api.ErrNone || !reflect.DeepEqual(r, sched.Report{}) {
			t.Errorf("Look(%d): %v, %d", job, r, e)
		}
	}
	for range 30 {
		picks(t, m, 0, 0, 1)
		if r := look(t, m, 0); r.State == sched.Runs && !reflect.DeepEqual(r, sched.Report{State: sched.Runs}) {
			t.Fatalf("of a job that runs: %v", r)
		}
	}
	rounds(t, m, 2)
	looksLike(t, m, 0, sched.Report{State: sched.Done, Fail: 33, Told: []int64{5, 0}, Gone: true})
	looksLike(t, m, 1, sched.Report{State: sched.Done, Value: -4, Gone: true})
}

func TestEventsInOrder(t *testing.T) { // P16.2
	m := machine(t, roomy(1))
	begins(t, m, "func 0;spawn r1 r0 f1;spawn r2 r0 f1;sync;ret r1;func 0;div r0 r0 r0;ret r0")
	rounds(t, m, 1)
	got := strings.Fields(told(m.Events()))
	if !slices.Equal(got[:3], []string{"0/./1", "0/./2", "0/./3"}) {
		t.Errorf("%v", got)
	}
	slices.Sort(got)
	if want := []string{"0/./1", "0/./2", "0/./3", "0/0/1", "0/1/1"}; !slices.Equal(got, want) {
		t.Errorf("%v; want %v", got, want)
	}
}

func TestAnEventIsThereAtOnce(t *testing.T) { // P16.2: behind the move that did it, and one with a move
	m := machine(t, roomy(1))
	begins(t, m, "func 0;set r1 1;set r2 2;less r3 r1 r2;ret r3")
	was := 0
	for !m.Home() {
		picks(t, m, 0, 0, 1)
		l := m.Events()
		if len(l) > was+1 || look(t, m, 0).State == sched.Done && len(l) != 4 {
			t.Fatalf("%d events behind %d", len(l), was)
		}
		was = len(l)
	}
}

func TestTooMuchIsNoEvent(t *testing.T) { // P16.2: what the budget does not let a task do was not done
	m := machine(t, roomy(1))
	if _, e := m.Begin(program(t, "func 0;jump 0"), nil, eval.Limits{Budget: 3}); e != api.OK {
		t.Fatalf("Begin: %d", e)
	}
	if _, e := m.Begin(program(t, "func 0;emit r0;spawn r0 r0 f0;ret r0"), nil, eval.Limits{Budget: 3}); e != api.OK {
		t.Fatalf("Begin: %d", e)
	}
	rounds(t, m, 1)
	looksLike(t, m, 0, sched.Report{State: sched.Done, Fail: api.FailBudget, Gone: true})
	looksLike(t, m, 1, sched.Report{State: sched.Done, Fail: api.FailDepth, Told: []int64{0}, Gone: true})
	if got := told(m.Events()); got != "0/./1 0/./2 0/./3 1/./1 1/./2" {
		t.Errorf("%s", got)
	}
}

func TestFree(t *testing.T) { // P16.2
	m := machine(t, sched.Config{Workers: 2, Kind: 1, Room: 1, Many: [3]int{7, 5, 3}})
	for w := -1; w <= 2; w++ {
		for class := -1; class <= 3; class++ {
			want := 0
			if 0 <= w && w < 2 && 0 <= class && class < 3 {
				want = []int{7, 5, 3}[class]
			}
			if got := m.Free(w, class); got != want {
				t.Errorf("Free(%d, %d): %d; want %d", w, class, got, want)
			}
		}
	}
	for _, n := range []int{math.MaxInt, math.MinInt} {
		if m.Free(n, 0) != 0 || m.Free(0, n) != 0 {
			t.Errorf("Free of %d", n)
		}
	}
}

func TestWhoseBlocks(t *testing.T) { // chapter 16: those of the worker that does it
	const text = "func 0;spawn r1 r0 f1;future h1 r0 f1;emit r0;touch r1 h1;ret r0;func 0;emit r0;ret r0"
	for worker := range 2 {
		m := machine(t, roomy(2))
		begins(t, m, text)
		for look(t, m, 0).State == sched.Runs {
			picks(t, m, worker, 0, 1)
		}
		used := [2][3]int{}
		used[0][0] = 1
		used[worker][0] += 2
		used[worker][1] = 1
		used[worker][2] = 3
		for w := range used {
			for class, many := range used[w] {
				if got := 20 - m.Free(w, class); got != many {
					t.Errorf("worker %d did all: %d blocks of class %d are worker %d's; want %d", worker, got, class, w, many)
				}
			}
		}
	}
}

func TestHomeOnlyWithTheOthers(t *testing.T) { // P16.2, P16.3
	m := machine(t, roomy(2))
	begins(t, m, "func 0;emit r0;ret r0")
	if m.Home() {
		t.Error("home, though nobody has taken what a job began")
	}
	picks(t, m, 0, 1, 500)
	looksLike(t, m, 0, sched.Report{State: sched.Done, Told: []int64{0}, Gone: true})
	if m.Home() || m.Free(0, 0) != 19 || m.Free(0, 2) != 19 {
		t.Errorf("%v, %d frames, %d chunks, though worker 1 has announced nothing", m.Home(), m.Free(0, 0), m.Free(0, 2))
	}
	rounds(t, m, 2)
	if m.Free(0, 0) != 20 || m.Free(0, 2) != 20 {
		t.Errorf("home with %d frames, %d chunks", m.Free(0, 0), m.Free(0, 2))
	}
}

func TestHomeAsLongAsATaskWaits(t *testing.T) { // P16.2: with each move from the beginning of a job to its end it is not home
	m := machine(t, roomy(1))
	begins(t, m, "func 0;future h1 r0 f1;touch r1 h1;spawn r2 r1 f1;sync;ret r2;func 1;ret r0")
	for look(t, m, 0).State == sched.Runs {
		if m.Home() {
			t.Fatal("home, though a job runs")
		}
		picks(t, m, 0, 0, 1)
	}
	if m.Home() {
		t.Error("home, though what is retired has not gone")
	}
	rounds(t, m, 1)
}

// spread begins a job on a machine whose worker 0 then has ready tasks in its
// rows, as many as its deque has room for.
func spread(t *testing.T, kind int) *sched.Machine {
	c := roomy(3)
	c.Kind = kind
	m := machine(t, c)
	begins(t, m, "func 0;spawn r1 r0 f1;spawn r2 r0 f1;spawn r3 r0 f1;jump 3;func 0;set r1 1;jump 1")
	for len(m.Events()) < 8 {
		picks(t, m, 0, 0, 1)
	}
	return m
}

func TestVictims(t *testing.T) { // chapter 16: it steals from the victim that it is handed; of no such worker, or itself, not
	for kind := 1; kind <= kinds; kind++ {
		for _, victim := range []int{-1, 1, 2, 3, 64, math.MaxInt, math.MinInt} {
			m := spread(t, kind)
			picks(t, m, 1, victim, 200)
			if len(m.Events()) != 8 {
				t.Errorf("kind %d: worker 1 does what worker 0 has, though it is handed %d", kind, victim)
			}
		}
		m := spread(t, kind)
		picks(t, m, 1, 0, 200)
		if l := m.Events(); len(l) < 20 || len(l[8].Path) != 1 {
			t.Errorf("kind %d: worker 1 does not steal: %s", kind, told(l))
		}
	}
}

func TestJobsAheadOfStealing(t *testing.T) { // chapter 16: own rows, then jobs, then others' rows
	m := spread(t, 1)
	begins(t, m, "func 0;jump 0")
	picks(t, m, 1, 0, 200)
	if l := m.Events(); len(l) < 20 || l[8].Job != 1 {
		t.Errorf("worker 1 steals, though a job waits: %s", told(l))
	}
}

func TestOwnRowsAheadOfJobs(t *testing.T) { // chapter 16: also the row for which the deque has no room
	for kind := 1; kind <= kinds; kind++ {
		m := machine(t, sched.Config{Workers: 1, Kind: kind, Room: 1, Many: [3]int{9, 0, 0}})
		begins(t, m, "func 0;spawn r1 r0 f1;spawn r2 r0 f1;spawn r3 r0 f1;spawn r3 r0 f1;ret r0;func 0;set r1 1;ret r0")
		begins(t, m, "func 0;ret r0")
		rounds(t, m, 1)
		if l := m.Events(); l[len(l)-1].Job != 1 {
			t.Errorf("kind %d: %s", kind, told(l))
		}
	}
}

func TestNone(t *testing.T) { // P16.1, R1: of nil, and of one that New did not make
	for name, m := range map[string]*sched.Machine{"nil": nil, "zero": {}} {
		if n, e := m.Begin(program(t, "func 0;ret r0"), nil, wide); n != 0 || e != api.ErrState {
			t.Errorf("%s: Begin: %d, %d", name, n, e)
		}
		if n, e := m.Begin(nil, nil, wide); n != 0 || e != api.ErrState {
			t.Errorf("%s: Begin of nothing: %d, %d", name, n, e)
		}
		if e := m.Pick(0, 0); e != api.ErrArg {
			t.Errorf("%s: Pick: %d", name, e)
		}
		if e := m.Kill(0); e != api.ErrNone {
			t.Errorf("%s: Kill: %d", name, e)
		}
		if r, e := m.Look(0); e != api.ErrNone || !reflect.DeepEqual(r, sched.Report{}) {
			t.Errorf("%s: Look: %v, %d", name, r, e)
		}
		if m.Fault() != api.ErrState || len(m.Events()) != 0 || m.Home() || m.Free(0, 0) != 0 {
			t.Errorf("%s: %d, %v, %v, %d", name, m.Fault(), m.Events(), m.Home(), m.Free(0, 0))
		}
	}
}

func TestWhatIsHandedIn(t *testing.T) { // R4: it is not changed, and not kept
	m := machine(t, roomy(1))
	const text = "func 2;emit r0;spawn r2 r1 f1;ret r2;func 1;emit r0;ret r0"
	p, args := program(t, text), []int64{4, 5, 99}
	if _, e := m.Begin(p, args[:2], wide); e != api.OK {
		t.Fatalf("Begin: %d", e)
	}
	if !reflect.DeepEqual(p, program(t, text)) || !slices.Equal(args, []int64{4, 5, 99}) {
		t.Errorf("handed in and changed: %v, %v", p, args)
	}
	args[0], args[1] = 7, 7
	p[0].Code[0].A = 1
	p[1].Code[0].A = 2
	p[1].Arity = 0
	p[1] = code.Func{}
	rounds(t, m, 1)
	looksLike(t, m, 0, sched.Report{State: sched.Done, Value: 5, Told: []int64{4, 5}, Gone: true})
}

func TestWhatIsHandedOut(t *testing.T) { // R4: it is new
	m := machine(t, roomy(1))
	begins(t, m, "func 0;spawn r2 r1 f1;emit r0;ret r2;func 0;spawn r2 r1 f2;ret r0;func 0;ret r0")
	spoil := func() {
		for _, e := range m.Events() {
			for i := range e.Path {
				e.Path[i] = 55
			}
		}
		for i := range m.Events() {
			m.Events()[i] = sched.Event{}
		}
		if told := look(t, m, 0).Told; len(told) > 0 {
			told[0] = 55
		}
	}
	for !m.Home() {
		picks(t, m, 0, 0, 1)
		spoil()
	}
	looksLike(t, m, 0, sched.Report{State: sched.Done, Told: []int64{0}, Gone: true})
	l := strings.Fields(told(m.Events()))
	slices.Sort(l)
	if got := strings.Join(l, " "); got != "0/./1 0/./2 0/./3 0/0.0/1 0/0/1 0/0/2" {
		t.Errorf("%s", got)
	}
}
