package frame_test

import (
	"math/rand"
	"slices"
	"testing"

	"haymow/api"
	"haymow/code"
	"haymow/eval"
	"haymow/frame"
	"haymow/merge"
	"haymow/path"
	"haymow/sample"
	"haymow/unfold"
)

// driver drives frames, each to its end, and those that one begins at once.
type driver struct {
	t       *testing.T
	program []code.Func
	limits  eval.Limits
	futures []*merge.Node // by their numbers, from 1 on
	log     []eval.Entry
	need    unfold.Need
}

// driven is a frame with what whoever drives it must know of it.
type driven struct {
	*frame.Frame
	node *merge.Node
	regs []int // those of its spawns since the last sync, and which kids they are
	from []int
	told int
}

func failed(n *merge.Node) bool { return n.Fail != api.FailNone }

func (d *driver) drive(f *frame.Frame) *merge.Node {
	place := len(d.log)
	d.log = append(d.log, eval.Entry{Path: f.Path})
	d.need.Frames++
	one := &driven{Frame: f, node: &merge.Node{}}
	for {
		e, errno := frame.Exec(d.program, d.limits, f)
		if errno != api.OK {
			d.t.Fatalf("%v: %v: %d", d.program, f, errno)
		}
		if why, over := d.does(one, e); over {
			one.node.Fail = why
			break
		}
	}
	d.log[place].Steps = f.Steps
	d.need.Steps += f.Steps
	return one.node
}

// does what an effect asks for, and tells whether the frame's task is over, and
// why it failed.
func (d *driver) does(one *driven, e frame.Effect) (why int, over bool) {
	switch e.Kind {
	case frame.Goes:
	case frame.Tells:
		if one.told%api.ChunkRoom == 0 {
			d.need.Chunks++
		}
		one.told++
		one.node.Pieces = append(one.node.Pieces, merge.Piece{Number: e.Value})
	case frame.Begins:
		one.regs, one.from = append(one.regs, e.Reg), append(one.from, len(one.node.Kids))
		d.begins(one, e)
	case frame.Futures:
		d.futures = append(d.futures, d.begins(one, e))
		one.Hands[e.Hand] = len(d.futures)
		d.need.Cells++
	case frame.Waits:
		return one.waits()
	case frame.Touches:
		touched := d.futures[e.Hand-1]
		one.Regs[e.Reg] = touched.Value
		return api.FailOther, failed(touched)
	case frame.Ends:
		if why, over = one.waits(); over {
			return why, true
		}
		one.node.Value = one.Regs[e.Reg]
		return api.FailNone, true
	case frame.Fails:
		return e.Why, true
	}
	return api.FailNone, false
}

func (d *driver) begins(one *driven, e frame.Effect) *merge.Node {
	kid := d.drive(frame.New(e.Fn, e.Path, e.Args, one.Hands))
	one.node.Pieces = append(one.node.Pieces, merge.Piece{Kid: true, Number: int64(len(one.node.Kids))})
	one.node.Kids = append(one.node.Kids, kid)
	return kid
}

func (one *driven) waits() (why int, over bool) {
	for i := range one.regs {
		one.Regs[one.regs[i]] = one.node.Kids[one.from[i]].Value
	}
	one.regs, one.from = nil, nil
	return api.FailOther, slices.ContainsFunc(one.node.Kids, failed)
}

func sameLog(a, b []eval.Entry) bool {
	return slices.EqualFunc(a, b, func(x, y eval.Entry) bool { return path.Compare(x.Path, y.Path) == 0 && x.Steps == y.Steps })
}

func unfolds(t *testing.T, p []code.Func, args []int64, l eval.Limits) unfold.Tree {
	t.Helper()
	want, e := unfold.Unfold(p, args, l, 1<<20)
	if e != api.OK {
		t.Fatalf("%v of %v, %v is not unfolded: %d", p, args, l, e)
	}
	d := &driver{t: t, program: p, limits: l}
	node := d.drive(frame.New(0, nil, args, [4]int{}))
	if sample.Text(node) != sample.Text(want.Node) || !sameLog(d.log, want.Log) || d.need != want.Need {
		t.Fatalf("%v of %v, %v:\n%s, %v, %v; want\n%s, %v, %v", p, args, l, sample.Text(node), d.log, d.need, sample.Text(want.Node), want.Log, want.Need)
	}
	return want
}

func TestDrivenFramesComeToTheUnfolding(t *testing.T) { // P12.2
	r := rand.New(rand.NewSource(12))
	ends, many := map[int]int{}, 0
	for range 10000 {
		p := sample.Program(r.Intn)
		l := eval.Limits{Budget: []int{30, 1 + r.Intn(30)}[r.Intn(2)], Depth: r.Intn(4)}
		tree := unfolds(t, p, sample.Args(r.Intn, p), l)
		ends[tree.Node.Fail]++
		if tree.Need.Cells > 0 && tree.Need.Frames > 3 {
			many++
		}
	}
	for fail := range 6 {
		if ends[fail] < 50 {
			t.Errorf("only %d end with %d", ends[fail], fail)
		}
	}
	if many < 500 {
		t.Errorf("only %d have some tasks, and futures among them", many)
	}
}

func TestDrivenAtTheEdges(t *testing.T) { // P12.2
	for _, row := range []struct {
		text string
		args []int64
		l    eval.Limits
	}{
		{"func 0; spawn r0 r0 f1; emit r0; ret r0; func 0; div r0 r0 r0; ret r0", nil, wide},
		{"func 0; jump 0", nil, wide},
		{"func 0; emit r0; spawn r0 r0 f0; emit r0; ret r0", nil, wide},
		{"func 0; emit r0; spawn r0 r0 f0; emit r0; ret r0", nil, eval.Limits{Budget: 1}},
		{"func 4; future h3 r0 f1; spawn r7 r1 f2; touch r5 h3; ret r7; func 4; sub r0 r0 r3; ret r0; func 3; touch r3 h3; emit r3; ret r2", []int64{-1 << 63, 2, 3, 1}, wide},
		{"func 1; zero r0 5; set r1 -1; add r0 r0 r1; spawn r2 r0 f0; spawn r2 r0 f0; ret r0", []int64{7}, wide},
	} {
		unfolds(t, program(t, row.text), row.args, row.l)
	}
}
