package sched

import (
	"slices"

	"haymow/api"
	"haymow/code"
	"haymow/eval"
	"haymow/frame"
	"haymow/merge"
)

// job is a program, as it was when it began, and what it came to.
type job struct {
	number  int
	program []code.Func
	limits  eval.Limits
	report  Report
	blocks  []int // its cells and chunks
}

func newJob(number int, p []code.Func, l eval.Limits) *job {
	p = slices.Clone(p)
	for i := range p {
		p[i].Code = slices.Clone(p[i].Code)
	}
	return &job{number: number, program: p, limits: l, report: Report{State: Runs}}
}

func (j *job) runs() bool { return j.report.State == Runs }

// stops leaves a job alone that does not run any more.
func (j *job) stops(s State) {
	if j.runs() {
		j.report.State = s
	}
}

// ends is told the first task's node, or none, once all tasks have ended. From
// then on only what the job came to is kept.
func (j *job) ends(n *merge.Node) {
	if j.runs() {
		told, value, fail, _ := merge.Merge(n)
		j.report = Report{State: Done, Value: value, Fail: fail, Told: told}
	}
	j.report.Gone = true
	j.program, j.blocks = nil, nil
}

// first makes the first task of a job ready, or finds no frame for it.
func (m *Machine) first(j *job, f *frame.Frame) {
	owner := j.number % len(m.workers)
	if m.pool.Free(owner, frames) == 0 {
		m.pool.Drain(owner)
	}
	if m.pool.Free(owner, frames) == 0 {
		j.stops(Exhausted)
		j.ends(nil)
		return
	}
	block, e := m.pool.Take(owner, frames)
	m.minds(e)
	m.begun <- m.ticket(m.enters(j, block, f))
}

// ticket is what stands for a task in a row. It has the claim's number in it,
// because a deque may hand a ticket out again when its task has been taken, or
// even has ended, and its frame is another one's.
func (m *Machine) ticket(t *task) int64 {
	claimed, e := m.memory.Load(m.claim(t.block))
	m.minds(e)
	return claimed*api.MaxWords + int64(t.block)
}

// claim is where a frame's claim stands: how often the frame was taken out of
// a row.
func (m *Machine) claim(block int) int { return m.claims + block - 1 }
