package jobs_test

import (
	"bytes"
	"math"
	"reflect"
	"slices"
	"strings"
	"testing"

	"haymow/api"
	"haymow/asm"
	"haymow/code"
	"haymow/eval"
	"haymow/jobs"
	"haymow/sched"
)

const kinds = 3

var wide = eval.Limits{Budget: api.MaxBudget, Depth: api.MaxDepth}

// roomy is a config with blocks enough for what the tests below submit.
func roomy(workers int) sched.Config {
	return sched.Config{Workers: workers, Kind: 1, Room: 4, Many: [3]int{100, 20, 40}}
}

func runtime(t *testing.T, c sched.Config, l eval.Limits) *jobs.Runtime {
	t.Helper()
	r, e := jobs.New(c, l)
	if e != api.OK || r == nil {
		t.Fatalf("%v, %v: %d", c, l, e)
	}
	return r
}

// written is the bytes of lines with ; between.
func written(t *testing.T, text string) []byte {
	t.Helper()
	p, line, e := asm.Parse(strings.ReplaceAll(text, ";", "\n"))
	if e != api.OK {
		t.Fatalf("%s: line %d: %d", text, line, e)
	}
	b, e := code.Write(p)
	if e != api.OK {
		t.Fatalf("%s: %d", text, e)
	}
	return b
}

func submits(t *testing.T, r *jobs.Runtime, text string, args ...int64) int {
	t.Helper()
	n, e := r.Submit(written(t, text), args)
	if e != api.OK {
		t.Fatalf("%s of %v: %d", text, args, e)
	}
	return n
}

// rounds picks all workers in turn, till all is home.
func rounds(t *testing.T, r *jobs.Runtime, workers int) {
	t.Helper()
	for k := range 100000 {
		if r.Stats().Home {
			return
		}
		for w := range workers {
			if e := r.Pick(w, (w+k+1)%workers); e != api.OK {
				t.Fatalf("Pick(%d): %d", w, e)
			}
		}
	}
	t.Fatal("all does not come home")
}

func polls(t *testing.T, r *jobs.Runtime, job int, want jobs.Reply) {
	t.Helper()
	got, e := r.Poll(job)
	if e != api.OK || !slices.Equal(got.Told, want.Told) {
		t.Errorf("job %d: %d, %v; want %v", job, e, got, want)
	}
	got.Told, want.Told = nil, nil
	if !reflect.DeepEqual(got, want) {
		t.Errorf("job %d: %v; want %v", job, got, want)
	}
}

func isLike(t *testing.T, r *jobs.Runtime, want jobs.Stats) {
	t.Helper()
	if got := r.Stats(); got != want {
		t.Errorf("%+v; want %+v", got, want)
	}
}

func TestExample(t *testing.T) { // example 1
	r := runtime(t, sched.Config{Workers: 1, Kind: 1, Room: 1, Many: [3]int{1, 0, 0}}, eval.Limits{Budget: 1})
	if n, e := r.Submit([]byte{72, 1, 0, 1, 17, 0, 0, 0, 0, 0, 0, 0}, nil); n != 0 || e != api.OK {
		t.Fatalf("Submit: %d, %d", n, e)
	}
	polls(t, r, 0, jobs.Reply{State: sched.Runs})
	for range 100 {
		if e := r.Pick(0, 0); e != api.OK {
			t.Fatalf("Pick: %d", e)
		}
	}
	polls(t, r, 0, jobs.Reply{State: sched.Done})
	isLike(t, r, jobs.Stats{Jobs: 1, Done: 1, Instructions: 1, Home: true})
}

const ten = "func 1;set r1 10;mul r0 r0 r1;emit r0;ret r0"

func TestJobsOneBehindTheOther(t *testing.T) { // P17.1, P17.2
	r := runtime(t, roomy(2), wide)
	isLike(t, r, jobs.Stats{Home: true})
	for job := range 5 {
		if n := submits(t, r, ten, int64(job)); n != job {
			t.Fatalf("job %d is %d", job, n)
		}
		isLike(t, r, jobs.Stats{Jobs: job + 1, Runs: 1, Done: job, Instructions: 4 * job})
		rounds(t, r, 2)
		polls(t, r, job, jobs.Reply{State: sched.Done, Value: int64(10 * job), Told: []int64{int64(10 * job)}})
		isLike(t, r, jobs.Stats{Jobs: job + 1, Done: job + 1, Instructions: 4*job + 4, Home: true})
	}
	polls(t, r, 1, jobs.Reply{State: sched.Done, Value: 10, Told: []int64{10}})
}

func TestFailed(t *testing.T) { // P17.1: a job that failed is done, and so is one that fails behind what it told
	r := runtime(t, roomy(1), eval.Limits{Budget: 7, Depth: 1})
	submits(t, r, "func 0;fail 99")
	submits(t, r, "func 1;emit r0;div r0 r0 r1;ret r0", 5)
	submits(t, r, "func 0;jump 0") // 7 instructions
	submits(t, r, "func 0;spawn r0 r0 f0;ret r0")
	rounds(t, r, 1)
	polls(t, r, 0, jobs.Reply{State: sched.Done, Fail: 99})
	polls(t, r, 1, jobs.Reply{State: sched.Done, Fail: api.FailZero, Told: []int64{5}})
	polls(t, r, 2, jobs.Reply{State: sched.Done, Fail: api.FailBudget})
	polls(t, r, 3, jobs.Reply{State: sched.Done, Fail: api.FailDepth})
	isLike(t, r, jobs.Stats{Jobs: 4, Done: 4, Instructions: 1 + 2 + 7 + 3, Home: true})
}

func TestNew(t *testing.T) { // P17.1
	good := roomy(2)
	long := sched.Config{Workers: 64, Kind: 1, Room: 1, Many: [3]int{1000, 1000, 1000}}
	for _, x := range []struct {
		c sched.Config
		l eval.Limits
		e api.Errno
	}{
		{good, wide, api.OK},
		{good, eval.Limits{Budget: 1}, api.OK},
		{good, eval.Limits{}, api.ErrRange},
		{good, eval.Limits{Budget: 0, Depth: 5}, api.ErrRange},
		{good, eval.Limits{Budget: -1, Depth: 5}, api.ErrRange},
		{good, eval.Limits{Budget: api.MaxBudget + 1, Depth: 5}, api.ErrRange},
		{good, eval.Limits{Budget: 5, Depth: -1}, api.ErrRange},
		{good, eval.Limits{Budget: 5, Depth: api.MaxDepth + 1}, api.ErrRange},
		{good, eval.Limits{Budget: math.MinInt, Depth: math.MaxInt}, api.ErrRange},
		{sched.Config{}, wide, api.ErrArg},
		{sched.Config{}, eval.Limits{}, api.ErrArg},
		{sched.Config{Workers: 1, Kind: 4, Room: 1}, eval.Limits{}, api.ErrArg},
		{long, wide, api.ErrLong},
		{long, eval.Limits{}, api.ErrLong},
	} {
		r, e := jobs.New(x.c, x.l)
		if e != x.e || (r != nil) != (x.e == api.OK) {
			t.Errorf("%v, %v: %v, %d; want %d", x.c, x.l, r, e, x.e)
		}
	}
}

// refused is a submission that is none, and the first of its errors.
type refused struct {
	name string
	b    []byte
	args []int64
	e    api.Errno
}

func wrong(t *testing.T) []refused {
	good := written(t, ten)
	return []refused{
		{"no bytes", nil, nil, api.ErrForm},
		{"another first byte", append([]byte{71}, good[1:]...), []int64{1}, api.ErrForm},
		{"cut", good[:len(good)-1], []int64{1}, api.ErrShort},
		{"the first byte alone", []byte{72}, nil, api.ErrShort},
		{"cut, and may not run", []byte{72, 1, 9}, nil, api.ErrShort},
		{"more", append(slices.Clone(good), 0), []int64{1}, api.ErrLong},
		{"more, and may not run", []byte{72, 0, 0}, nil, api.ErrLong},
		{"no functions", []byte{72, 0}, nil, api.ErrForm},
		{"goes on behind its end", []byte{72, 1, 0, 1, 1, 0, 0, 0, 5, 0, 0, 0}, nil, api.ErrForm},
		{"no instructions", []byte{72, 1, 0, 0}, nil, api.ErrForm},
		{"a register that is not there, and no arguments", []byte{72, 1, 1, 1, 17, 8, 0, 0, 0, 0, 0, 0}, nil, api.ErrForm},
		{"a function that is not there", []byte{72, 1, 0, 2, 11, 0, 0, 1, 0, 0, 0, 0, 17, 0, 0, 0, 0, 0, 0, 0}, nil, api.ErrForm},
		{"an arity of 5, and 5 arguments", []byte{72, 1, 5, 1, 17, 0, 0, 0, 0, 0, 0, 0}, make([]int64, 5), api.ErrForm},
		{"too few arguments", good, nil, api.ErrArg},
		{"too many arguments", good, []int64{1, 2}, api.ErrArg},
		{"an argument for none", written(t, "func 0;ret r0;func 1;ret r0"), []int64{1}, api.ErrArg},
	}
}

func TestWrongSubmissions(t *testing.T) { // P17.1: and the first error counts, open, full, and shut
	r := runtime(t, roomy(2), wide)
	refuses := func(when string, e func(api.Errno) api.Errno) {
		t.Helper()
		before := r.Stats()
		for _, x := range wrong(t) {
			if n, got := r.Submit(x.b, x.args); n != 0 || got != e(x.e) {
				t.Errorf("%s: %s: %d, %d; want %d", when, x.name, n, got, e(x.e))
			}
		}
		isLike(t, r, before)
	}
	as := func(e api.Errno) api.Errno { return e }
	refuses("at first", as)
	for job := range api.MaxJobs {
		if n := submits(t, r, ten, 1); n != job {
			t.Fatalf("job %d is %d", job, n)
		}
	}
	refuses("full", as)
	full := func(want api.Errno) {
		t.Helper()
		if n, e := r.Submit(written(t, ten), []int64{1}); n != 0 || e != want {
			t.Errorf("a job more: %d, %d; want %d", n, e, want)
		}
	}
	full(api.ErrFull)
	rounds(t, r, 2)
	isLike(t, r, jobs.Stats{Jobs: api.MaxJobs, Done: api.MaxJobs, Instructions: 4 * api.MaxJobs, Home: true})
	full(api.ErrFull) // also where all are done
	r.Shut()
	full(api.ErrState)
	refuses("shut", func(api.Errno) api.Errno { return api.ErrState })
}

func TestWithAnErrorNothingIsTurned(t *testing.T) { // P17.1: two runtimes, of whom one is asked what it refuses, too
	one, other := runtime(t, roomy(2), wide), runtime(t, roomy(2), wide)
	const spawns = "func 1;spawn r1 r0 f1;spawn r2 r0 f1;sync;add r1 r1 r2;emit r1;ret r1;func 1;future h0 r0 f2;emit r0;touch r0 h0;ret r0;func 1;ret r0"
	for _, r := range []*jobs.Runtime{one, other} {
		submits(t, r, spawns, 7)
	}
	for k := range 400 {
		for _, x := range wrong(t) {
			one.Submit(x.b, x.args)
		}
		one.Poll(2)
		one.Cancel(2)
		one.Cancel(-1)
		one.Pick(2, 0)
		one.Pick(-1, 0)
		if k == 100 {
			submits(t, one, spawns, 8)
			submits(t, other, spawns, 8)
		}
		one.Pick(k%2, 1-k%2)
		other.Pick(k%2, 1-k%2)
		if !reflect.DeepEqual(one.Events(), other.Events()) || one.Stats() != other.Stats() {
			t.Fatalf("behind %d picks: %v and %v", k, one.Stats(), other.Stats())
		}
	}
	rounds(t, one, 2)
	isLike(t, one, jobs.Stats{Jobs: 2, Done: 2, Instructions: 2 * (6 + 2*(4+1)), Home: true})
}

func TestNoSuchJob(t *testing.T) { // P17.1
	r := runtime(t, roomy(2), wide)
	submits(t, r, ten, 1)
	submits(t, r, ten, 2)
	for _, job := range []int{-1, 2, 3, 64, math.MinInt, math.MaxInt} {
		if x, e := r.Poll(job); e != api.ErrNone || !reflect.DeepEqual(x, jobs.Reply{}) {
			t.Errorf("Poll(%d): %v, %d", job, x, e)
		}
		if e := r.Cancel(job); e != api.ErrNone {
			t.Errorf("Cancel(%d): %d", job, e)
		}
	}
	isLike(t, r, jobs.Stats{Jobs: 2, Runs: 2})
}

func TestCancel(t *testing.T) { // P17.1: a job that runs is killed, another one stays
	r := runtime(t, roomy(2), wide)
	for range 3 {
		submits(t, r, ten, 3)
	}
	if e := r.Cancel(1); e != api.OK {
		t.Errorf("Cancel: %d", e)
	}
	isLike(t, r, jobs.Stats{Jobs: 3, Runs: 2, Killed: 1})
	polls(t, r, 1, jobs.Reply{State: sched.Killed})
	rounds(t, r, 2)
	for _, job := range []int{0, 1, 1} {
		if e := r.Cancel(job); e != api.OK {
			t.Errorf("Cancel(%d): %d", job, e)
		}
	}
	done := jobs.Reply{State: sched.Done, Value: 30, Told: []int64{30}}
	polls(t, r, 0, done)
	polls(t, r, 1, jobs.Reply{State: sched.Killed})
	polls(t, r, 2, done)
	isLike(t, r, jobs.Stats{Jobs: 3, Done: 2, Killed: 1, Instructions: 8, Home: true})
}

func TestShut(t *testing.T) { // P17.1: all that run are killed, those that do not stay
	few := roomy(2)
	few.Many = [3]int{2, 0, 1}
	r := runtime(t, few, wide)
	submits(t, r, ten, 4)
	rounds(t, r, 2)
	submits(t, r, "func 0;future h0 r0 f0;ret r0") // there are no cells
	rounds(t, r, 2)
	for range 3 {
		submits(t, r, ten, 5)
	}
	r.Cancel(3)
	before := r.Stats()
	if want := (jobs.Stats{Jobs: 5, Runs: 2, Done: 1, Killed: 1, Exhausted: 1, Instructions: 5}); before != want {
		t.Fatalf("%+v; want %+v", before, want)
	}
	for range 2 { // shut again it stays so
		if e := r.Shut(); e != api.OK {
			t.Errorf("Shut: %d", e)
		}
		isLike(t, r, jobs.Stats{Jobs: 5, Done: 1, Killed: 3, Exhausted: 1, Instructions: 5, Shut: true})
	}
	rounds(t, r, 2) // what is killed still comes home
	isLike(t, r, jobs.Stats{Jobs: 5, Done: 1, Killed: 3, Exhausted: 1, Instructions: 5, Home: true, Shut: true})
	polls(t, r, 0, jobs.Reply{State: sched.Done, Value: 40, Told: []int64{40}})
	polls(t, r, 1, jobs.Reply{State: sched.Exhausted})
	for _, job := range []int{2, 3, 4} {
		polls(t, r, job, jobs.Reply{State: sched.Killed})
	}
	if e := r.Cancel(4); e != api.OK {
		t.Errorf("Cancel of a shut one: %d", e)
	}
	if e := r.Cancel(5); e != api.ErrNone {
		t.Errorf("Cancel of a shut one: %d", e)
	}
}

func TestShutWithoutJobs(t *testing.T) { // P17.1
	r := runtime(t, roomy(1), wide)
	if e := r.Shut(); e != api.OK {
		t.Errorf("Shut: %d", e)
	}
	isLike(t, r, jobs.Stats{Home: true, Shut: true})
	if n, e := r.Submit(written(t, ten), []int64{1}); n != 0 || e != api.ErrState {
		t.Errorf("Submit: %d, %d", n, e)
	}
	if e := r.Pick(0, 0); e != api.OK {
		t.Errorf("Pick: %d", e)
	}
}

func TestExhaustedAtOnce(t *testing.T) { // P17.1: it has a number, and a state
	r := runtime(t, sched.Config{Workers: 1, Kind: 2, Room: 1}, wide)
	if n, e := r.Submit(written(t, ten), []int64{1}); n != 0 || e != api.OK {
		t.Errorf("Submit: %d, %d", n, e)
	}
	polls(t, r, 0, jobs.Reply{State: sched.Exhausted})
	isLike(t, r, jobs.Stats{Jobs: 1, Exhausted: 1, Home: true})
}

func TestPick(t *testing.T) { // P17.2: ErrArg, if there is no such worker; of no such victim there is nothing to steal
	r := runtime(t, roomy(2), wide)
	submits(t, r, ten, 1)
	for _, w := range []int{-1, 2, 64, math.MinInt, math.MaxInt} {
		if e := r.Pick(w, 0); e != api.ErrArg {
			t.Errorf("Pick(%d): %d", w, e)
		}
	}
	for k := range 400 {
		if e := r.Pick(k%2, []int{-1, 0, 1, 2, math.MinInt, math.MaxInt}[k%6]); e != api.OK {
			t.Fatalf("Pick: %d", e)
		}
	}
	isLike(t, r, jobs.Stats{Jobs: 1, Done: 1, Instructions: 4, Home: true})
}

func TestNone(t *testing.T) { // P17.1: of nil, and of one that New did not make
	for name, r := range map[string]*jobs.Runtime{"nil": nil, "zero": {}} {
		for _, b := range [][]byte{nil, written(t, ten)} {
			if n, e := r.Submit(b, []int64{1}); n != 0 || e != api.ErrState {
				t.Errorf("%s: Submit: %d, %d", name, n, e)
			}
		}
		if x, e := r.Poll(0); e != api.ErrNone || !reflect.DeepEqual(x, jobs.Reply{}) {
			t.Errorf("%s: Poll: %v, %d", name, x, e)
		}
		if r.Cancel(0) != api.ErrNone || r.Pick(0, 0) != api.ErrArg || r.Shut() != api.ErrState || r.Fault() != api.ErrState {
			t.Errorf("%s: Cancel, Pick, Shut or Fault", name)
		}
		if x := r.Stats(); x != (jobs.Stats{}) || len(r.Events()) != 0 {
			t.Errorf("%s: Stats or Events", name)
		}
	}
}

func TestNothingHandedInIsKept(t *testing.T) { // R4
	r := runtime(t, roomy(1), wide)
	b, args := written(t, ten), []int64{6, 77}
	bytesOf, argsOf := slices.Clone(b), slices.Clone(args)
	if _, e := r.Submit(b, args[:1]); e != api.OK {
		t.Fatalf("Submit: %d", e)
	}
	if !bytes.Equal(b, bytesOf) || !slices.Equal(args, argsOf) {
		t.Errorf("changed: %v, %v", b, args)
	}
	clear(b)
	args[0] = 9
	rounds(t, r, 1)
	polls(t, r, 0, jobs.Reply{State: sched.Done, Value: 60, Told: []int64{60}})
}

func TestWhatIsHandedOutIsNew(t *testing.T) { // R4
	r := runtime(t, roomy(1), wide)
	submits(t, r, "func 0;emit r0;spawn r1 r0 f1;ret r1;func 0;ret r0")
	rounds(t, r, 1)
	x, _ := r.Poll(0)
	l := r.Events()
	x.Told[0] = 5
	for i := range l {
		l[i].Job = 9
		for k := range l[i].Path {
			l[i].Path[k] = 9
		}
	}
	polls(t, r, 0, jobs.Reply{State: sched.Done, Told: []int64{0}})
	for _, e := range r.Events() {
		if e.Job != 0 || len(e.Path) > 0 && e.Path[0] != 0 {
			t.Errorf("an event is %v", e)
		}
	}
}
