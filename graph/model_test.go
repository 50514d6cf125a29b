package graph_test

import (
	"math/rand"
	"slices"
	"testing"

	"haymow/api"
	"haymow/code"
	"haymow/eval"
	"haymow/graph"
	"haymow/plain"
	"haymow/sample"
	"haymow/unfold"
)

// model notes of each instruction only whose it is and for whom it waits; what
// it is behind is worked out from that afterwards.
type model struct {
	program []code.Func
	limits  eval.Limits
	most    int
	notes   []note
	tasks   []*one
}

type note struct {
	name  string
	task  int
	waits []int // tasks
}

// one is a task: the instruction that began it, and how it ended.
type one struct {
	from  int
	value int64
	fail  int
}

func (m *model) failed(task int) bool { return m.tasks[task].fail != 0 }

func (m *model) fails(task, why int) int {
	m.tasks[task].fail = why
	return task
}

// task does one, and answers its number. A hand of it is a task, or -1.
func (m *model) task(fn int, args []int64, depth int, hands [4]int) int {
	me, s, steps := len(m.tasks), plain.State{}, 0
	t := &one{from: len(m.notes) - 1}
	m.tasks = append(m.tasks, t)
	copy(s.Regs[:], args)
	var all, since, regs []int
	for ; steps < m.limits.Budget && len(m.notes) < m.most; steps++ {
		in := m.program[fn].Code[s.At]
		s.At++
		here, name := len(m.notes), code.Name(in.Op)
		m.notes = append(m.notes, note{name: name, task: me})
		switch name {
		case "spawn", "future":
			if depth == m.limits.Depth {
				return m.fails(me, 4)
			}
			kid := m.task(in.C, slices.Clone(s.Regs[in.B:in.B+m.program[in.C].Arity]), depth+1, hands)
			all, since = append(all, kid), append(since, kid)
			if name == "spawn" {
				regs = append(regs, in.A)
			} else {
				regs = append(regs, -1)
				hands[in.A] = kid
			}
		case "sync", "ret":
			m.notes[here].waits = since
			if slices.ContainsFunc(all, m.failed) {
				return m.fails(me, 5)
			}
			for i, kid := range since {
				if regs[i] >= 0 {
					s.Regs[regs[i]] = m.tasks[kid].value
				}
			}
			since, regs = nil, nil
			if name == "ret" {
				t.value = s.Regs[in.A]
				return me
			}
		case "touch":
			if hands[in.B] < 0 {
				return m.fails(me, 2)
			}
			m.notes[here].waits = []int{hands[in.B]}
			if m.failed(hands[in.B]) {
				return m.fails(me, 5)
			}
			s.Regs[in.A] = m.tasks[hands[in.B]].value
		case "fail":
			return m.fails(me, in.K)
		case "div":
			if !s.Div(in) {
				return m.fails(me, 1)
			}
		case "emit":
		default:
			plain.Operations()[in.Op](&s, in)
		}
	}
	return m.fails(me, 3)
}

// lastOf is the last instruction of a task of those that are below a bound; -1
// without.
func (m *model) lastOf(task, below int) int {
	for i := below - 1; i >= 0; i-- {
		if m.notes[i].task == task {
			return i
		}
	}
	return -1
}

func (m *model) graph() graph.Graph {
	behind := make([][]int, len(m.notes))
	for i, n := range m.notes {
		ahead := map[int]int{}
		if k := m.lastOf(n.task, i); k >= 0 {
			ahead[k]++
		} else if from := m.tasks[n.task].from; from >= 0 {
			ahead[from]++
		}
		for _, task := range n.waits {
			ahead[m.lastOf(task, len(m.notes))]++
		}
		for k := range i {
			if ahead[k] > 0 {
				behind[i] = append(behind[i], k)
			}
		}
	}
	return graph.Graph{Behind: behind}
}

// most is how many instructions a drawn program does at most: a longer one is
// not looked at, since the model looks through all of them again and again.
const most = 600

// drawn is a program with arguments and limits, and its graph.
func drawn(r *rand.Rand) (p []code.Func, args []int64, l eval.Limits, m *model) {
	for {
		p = sample.Program(r.Intn)
		args = sample.Args(r.Intn, p)
		l = eval.Limits{Budget: []int{30, 1 + r.Intn(30)}[r.Intn(2)], Depth: r.Intn(4)}
		m = &model{program: p, limits: l, most: most + 1}
		m.task(0, args, 0, [4]int{-1, -1, -1, -1})
		if len(m.notes) <= most {
			return p, args, l, m
		}
	}
}

// depth is how many the longest row has that ends with a step.
func depth(g graph.Graph, step int, known map[int]int) int {
	if known[step] == 0 {
		longest := 0
		for _, ahead := range g.Behind[step] {
			longest = max(longest, depth(g, ahead, known))
		}
		known[step] = longest + 1
	}
	return known[step]
}

func depths(g graph.Graph) []int {
	known, l := map[int]int{}, make([]int, len(g.Behind))
	for i := range l {
		l[len(l)-1-i] = depth(g, len(l)-1-i, known)
	}
	return l
}

func same(a, b graph.Graph) bool {
	return slices.EqualFunc(a.Behind, b.Behind, func(x, y []int) bool { return slices.Equal(x, y) })
}

func TestAgainstTheModel(t *testing.T) { // P14.1, P14.2
	r := rand.New(rand.NewSource(14))
	alone, wide, touches, syncs := 0, 0, 0, 0
	for range 10000 {
		p, args, l, m := drawn(r)
		want := m.graph()
		got, e := graph.Build(p, args, l, len(m.notes))
		if e != api.OK || !same(got, want) {
			t.Fatalf("%v of %v, %v: %d\n%s; want\n%s", p, args, l, e, told(got), told(want))
		}
		if g, e := graph.Build(p, args, l, len(m.notes)-1); e != api.ErrLong || len(g.Behind) > 0 {
			t.Fatalf("%v of %v, %v, one too few: %v, %d", p, args, l, g, e)
		}
		tree, _ := unfold.Unfold(p, args, l, enough)
		if graph.Work(got) != tree.Need.Steps {
			t.Fatalf("%v of %v, %v: %d steps; want %d", p, args, l, graph.Work(got), tree.Need.Steps)
		}
		follows(t, got)
		switch {
		case len(m.tasks) > 1 && graph.Span(got) < graph.Work(got):
			wide++
		case len(m.tasks) == 1:
			alone++
			if graph.Span(got) != graph.Work(got) {
				t.Fatalf("%v: a task alone: %s", p, told(got))
			}
		}
		for i, n := range m.notes {
			if n.name == "touch" && len(got.Behind[i]) > 1 {
				touches++
			} else if n.name != "touch" && len(got.Behind[i]) > 2 {
				syncs++
			}
		}
	}
	if alone < 1000 || wide < 1000 || touches < 500 || syncs < 1000 {
		t.Errorf("only %d alone, %d wide, %d touches, %d that wait for some", alone, wide, touches, syncs)
	}
}

// follows is what holds of each graph that a program has.
func follows(t *testing.T, g graph.Graph) { // P14.2
	t.Helper()
	many, most := map[int]int{}, 0
	for _, d := range graph.Depths(g) {
		many[d]++
		most = max(most, many[d])
	}
	work, span := graph.Work(g), graph.Span(g)
	if !graph.Right(g) || span < 1 || span > work || work > span*most || len(many) != span {
		t.Fatalf("%s: work %d, span %d, at most %d of a depth", told(g), work, span, most)
	}
	if !slices.Equal(graph.Depths(g), depths(g)) {
		t.Fatalf("%s: %v; want %v", told(g), graph.Depths(g), depths(g))
	}
	for i, row := range g.Behind {
		if (len(row) == 0) != (i == 0) {
			t.Fatalf("%s: %d", told(g), i)
		}
	}
}

// rightWords is the chapter's word for a graph, number by number.
func rightWords(g graph.Graph) bool {
	for i, row := range g.Behind {
		for k, ahead := range row {
			if ahead < 0 || ahead >= i || k > 0 && row[k-1] >= ahead {
				return false
			}
		}
	}
	return true
}

func TestAnyRows(t *testing.T) { // P14.1
	r := rand.New(rand.NewSource(141))
	ones := 0
	for range 50000 {
		g := graph.Graph{Behind: make([][]int, r.Intn(7))}
		for i := range g.Behind {
			for k := range i + r.Intn(8)/7 {
				if r.Intn(2) == 0 {
					g.Behind[i] = append(g.Behind[i], k-r.Intn(12)/11)
				}
			}
		}
		var want []int
		if rightWords(g) {
			want = depths(g)
			ones++
		}
		span := 0
		for _, d := range want {
			span = max(span, d)
		}
		if graph.Right(g) != rightWords(g) || !slices.Equal(graph.Depths(g), want) || graph.Span(g) != span || graph.Work(g) != len(want) {
			t.Fatalf("%v: %v, %v, %d, %d; want %v, %v", g, graph.Right(g), graph.Depths(g), graph.Span(g), graph.Work(g), rightWords(g), want)
		}
	}
	if ones < 10000 || ones > 40000 {
		t.Errorf("%d are graphs", ones)
	}
}

// spoil writes into all rows with their spare room, and looks whether another
// one is changed by that.
func spoil(t *testing.T, rows [][]int) {
	t.Helper()
	for i, row := range rows {
		for k := range row[:cap(row)] {
			row[:cap(row)][k] = -1 - i
		}
	}
	for i, row := range rows {
		if slices.ContainsFunc(row, func(n int) bool { return n != -1-i }) {
			t.Fatalf("row %d shares memory", i)
		}
	}
}

func TestWhatIsHandedInStaysAndOutIsNew(t *testing.T) { // R4, R5
	r := rand.New(rand.NewSource(142))
	for range 500 {
		p, args, l, m := drawn(r)
		want := m.graph()
		room := append(slices.Clone(args), 77)
		bytes, _ := code.Write(p)
		g, e := graph.Build(p, room[:len(args)], l, enough)
		if e != api.OK || !same(g, want) {
			t.Fatalf("%v: %s, %d", p, told(g), e)
		}
		ends := depths(want)
		for range 2 {
			out := graph.Depths(g)
			if !slices.Equal(out, ends) || !same(g, want) {
				t.Fatalf("%v: %v", p, out)
			}
			spoil(t, [][]int{out})
		}
		if graph.Span(g) != slices.Max(ends) || graph.Work(g) != len(ends) || !graph.Right(g) || !same(g, want) {
			t.Fatalf("%v: %s is changed", p, told(g))
		}
		spoil(t, g.Behind)
		if after, _ := code.Write(p); !slices.Equal(bytes, after) || !slices.Equal(room, append(slices.Clone(args), 77)) {
			t.Fatalf("%v, %v are changed", p, args)
		}
		if again, e := graph.Build(p, args, l, enough); e != api.OK || !same(again, want) {
			t.Fatalf("%v: %s, %d", p, told(again), e)
		}
	}
}
