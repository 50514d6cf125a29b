package unfold_test

import (
	"math/rand"
	"slices"
	"testing"

	"haymow/api"
	"haymow/code"
	"haymow/eval"
	"haymow/merge"
	"haymow/path"
	"haymow/plain"
	"haymow/sample"
	"haymow/unfold"
)

// model unfolds by the chapter's words alone: no panics, one switch.
type model struct {
	program []code.Func
	limits  eval.Limits
	need    unfold.Need
	log     []eval.Entry
}

func failed(n *merge.Node) bool { return n.Fail != 0 }

func fails(n *merge.Node, why int) *merge.Node {
	n.Fail = why
	return n
}

func (m *model) task(fn int, args []int64, at []int, hands [4]*merge.Node) *merge.Node {
	me, n, s := len(m.log), &merge.Node{}, plain.State{}
	m.log = append(m.log, eval.Entry{Path: at})
	m.need.Frames++
	copy(s.Regs[:], args)
	var regs, from []int
	for {
		if m.log[me].Steps == m.limits.Budget {
			return fails(n, 3)
		}
		m.log[me].Steps++
		m.need.Steps++
		in := m.program[fn].Code[s.At]
		s.At++
		switch name := code.Name(in.Op); name {
		case "spawn", "future":
			nth := len(n.Kids)
			if len(at) == m.limits.Depth {
				return fails(n, 4)
			}
			kid := m.task(in.C, slices.Clone(s.Regs[in.B:in.B+m.program[in.C].Arity]), append(slices.Clone(at), nth), hands)
			n.Kids, n.Pieces = append(n.Kids, kid), append(n.Pieces, merge.Piece{Kid: true, Number: int64(nth)})
			if name == "spawn" {
				regs, from = append(regs, in.A), append(from, nth)
			} else {
				hands[in.A] = kid
				m.need.Cells++
			}
		case "sync", "ret":
			if slices.ContainsFunc(n.Kids, failed) {
				return fails(n, 5)
			}
			for i := range regs {
				s.Regs[regs[i]] = n.Kids[from[i]].Value
			}
			regs, from = nil, nil
			if name == "ret" {
				n.Value = s.Regs[in.A]
				return n
			}
		case "touch":
			if hands[in.B] == nil {
				return fails(n, 2)
			} else if failed(hands[in.B]) {
				return fails(n, 5)
			}
			s.Regs[in.A] = hands[in.B].Value
		case "emit":
			n.Pieces = append(n.Pieces, merge.Piece{Number: s.Regs[in.A]})
		case "fail":
			return fails(n, in.K)
		case "div":
			if !s.Div(in) {
				return fails(n, 1)
			}
		default:
			plain.Operations()[in.Op](&s, in)
		}
	}
}

func chunks(n *merge.Node) int {
	many := (len(n.Pieces) - len(n.Kids) + 3) / 4
	for _, kid := range n.Kids {
		many += chunks(kid)
	}
	return many
}

// drawn is a program with arguments and limits, and what it is unfolded to.
func drawn(r *rand.Rand) (p []code.Func, args []int64, l eval.Limits, want unfold.Tree) {
	p = sample.Program(r.Intn)
	args = sample.Args(r.Intn, p)
	l = eval.Limits{Budget: []int{30, 1 + r.Intn(30)}[r.Intn(2)], Depth: r.Intn(4)}
	m := &model{program: p, limits: l}
	node := m.task(0, args, nil, [4]*merge.Node{})
	m.need.Chunks = chunks(node)
	return p, args, l, unfold.Tree{Node: node, Log: m.log, Need: m.need}
}

func same(a, b unfold.Tree) bool {
	return sample.Text(a.Node) == sample.Text(b.Node) && logged(a.Log) == logged(b.Log) && a.Need == b.Need
}

func TestAgainstTheModel(t *testing.T) { // P8.1, P8.2
	r := rand.New(rand.NewSource(8))
	ends := map[int]int{}
	more := 0
	for range 20000 {
		p, args, l, want := drawn(r)
		got, e := unfold.Unfold(p, args, l, want.Need.Steps)
		if e != api.OK || !same(got, want) {
			t.Fatalf("%v of %v, %v:\n%s, %v, %d; want\n%s, %v", p, args, l, sample.Text(got.Node), got.Need, e, sample.Text(want.Node), want.Need)
		}
		if tree, e := unfold.Unfold(p, args, l, want.Need.Steps-1); e != api.ErrLong || !nothing(tree) {
			t.Fatalf("%v of %v, %v, one too few: %v, %d", p, args, l, tree, e)
		}
		evaluated, e := eval.Eval(p, args, l, want.Need.Steps)
		if e != api.OK {
			t.Fatalf("%v of %v, %v: %d", p, args, l, e)
		}
		follows(t, got, evaluated)
		ends[got.Node.Fail]++
		if len(got.Log) > len(evaluated.Log) {
			more++
		}
	}
	for fail := range 6 {
		if ends[fail] < 100 {
			t.Errorf("only %d end with %d", ends[fail], fail)
		}
	}
	if more < 1000 {
		t.Errorf("only %d have tasks that evaluating does not know", more)
	}
}

func follows(t *testing.T, tree unfold.Tree, evaluated eval.Result) { // P8.2
	t.Helper()
	told, value, fail, e := merge.Merge(tree.Node)
	if e != api.OK || value != evaluated.Value || fail != evaluated.Fail || !slices.Equal(told, evaluated.Told) {
		t.Fatalf("%s: %v, %d, %d, %d; want %v", sample.Text(tree.Node), told, value, fail, e, evaluated)
	}
	first, _ := merge.First(tree.Node)
	left := evaluated.Log
	for i, entry := range tree.Log {
		if i > 0 && path.Compare(tree.Log[i-1].Path, entry.Path) != -1 {
			t.Fatalf("%s: %s does not rise", sample.Text(tree.Node), logged(tree.Log))
		}
		if len(left) == 0 || !slices.Equal(left[0].Path, entry.Path) {
			if fail == 0 || path.Compare(first, entry.Path) != -1 {
				t.Fatalf("%s: %v does not stand behind %v", sample.Text(tree.Node), entry.Path, first)
			}
			continue
		}
		if entry.Steps < left[0].Steps || fail == 0 && entry.Steps != left[0].Steps {
			t.Fatalf("%s: %v, %v", sample.Text(tree.Node), entry, left[0])
		}
		left = left[1:]
	}
	if len(left) > 0 {
		t.Fatalf("%s: %s is not there", sample.Text(tree.Node), logged(left))
	}
}

// spoil writes into all that a tree has, with its spare room, task by task, and
// looks whether another task's is changed by that.
func spoil(t *testing.T, tree unfold.Tree) {
	t.Helper()
	nodes := below(tree.Node)
	for i, n := range nodes {
		for k := range n.Pieces[:cap(n.Pieces)] {
			n.Pieces[:cap(n.Pieces)][k] = merge.Piece{Number: int64(-i)}
		}
		for k := range n.Kids[:cap(n.Kids)] {
			n.Kids[:cap(n.Kids)][k] = n
		}
		own := tree.Log[i].Path
		for k := range own[:cap(own)] {
			own[:cap(own)][k] = -i
		}
	}
	for i, n := range nodes {
		if slices.ContainsFunc(n.Pieces, func(p merge.Piece) bool { return p.Number != int64(-i) }) ||
			slices.ContainsFunc(n.Kids, func(kid *merge.Node) bool { return kid != n }) ||
			slices.ContainsFunc(tree.Log[i].Path, func(n int) bool { return n != -i }) {
			t.Fatalf("task %d shares memory", i)
		}
	}
}

// below are a node and all below it, in the order of their paths.
func below(n *merge.Node) []*merge.Node {
	nodes := []*merge.Node{n}
	for _, kid := range n.Kids {
		nodes = append(nodes, below(kid)...)
	}
	return nodes
}

func TestWhatIsHandedInStaysAndOutIsNew(t *testing.T) { // R4, R5
	r := rand.New(rand.NewSource(9))
	for range 1000 {
		p, args, l, want := drawn(r)
		room := append(slices.Clone(args), 77)
		bytes, _ := code.Write(p)
		first, e := unfold.Unfold(p, room[:len(args)], l, enough)
		if e != api.OK || !same(first, want) {
			t.Fatalf("%v: %v, %d", p, first, e)
		}
		spoil(t, first)
		if after, _ := code.Write(p); !slices.Equal(bytes, after) || !slices.Equal(room, append(slices.Clone(args), 77)) {
			t.Fatalf("%v, %v are changed", p, args)
		}
		if again, e := unfold.Unfold(p, args, l, enough); e != api.OK || !same(again, want) {
			t.Fatalf("%v: %v, %d", p, again, e)
		}
	}
}

func TestDeepPathsAreApart(t *testing.T) { // R4
	p := program(t, "func 1; zero r0 5; set r1 -1; add r0 r0 r1; spawn r2 r0 f0; spawn r2 r0 f0; ret r0")
	tree, e := unfold.Unfold(p, []int64{7}, wide, enough)
	if e != api.OK || len(tree.Log) != 255 {
		t.Fatalf("%d tasks, %d", len(tree.Log), e)
	}
	spoil(t, tree)
}
