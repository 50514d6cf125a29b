package merge_test

import (
	"math/rand"
	"slices"
	"testing"

	"haymow/api"
	"haymow/merge"
	"haymow/path"
	"haymow/sample"
)

// model merges by the chapter's words alone.
type model struct {
	told           []int64
	nodes, numbers int
}

func (m *model) merge(n *merge.Node, at []int) (value int64, fail int, first []int) {
	for _, p := range n.Pieces {
		if !p.Kid {
			m.told = append(m.told, p.Number)
			continue
		}
		if _, fail, first = m.merge(n.Kids[p.Number], append(slices.Clone(at), int(p.Number))); fail != 0 {
			return 0, fail, first
		}
	}
	return n.Value, n.Fail, at
}

func (m *model) count(n *merge.Node) {
	m.nodes++
	m.numbers += len(n.Pieces) - len(n.Kids)
	for _, kid := range n.Kids {
		m.count(kid)
	}
}

// holds holds a node against the model, and tells whether it fails.
func holds(t *testing.T, n *merge.Node) bool {
	t.Helper()
	m := &model{}
	m.count(n)
	value, fail, first := m.merge(n, nil)
	told, gotValue, gotFail, e := merge.Merge(n)
	if !merge.Right(n) || e != api.OK || !slices.Equal(told, m.told) || gotValue != value || gotFail != fail {
		t.Fatalf("%s: %v, %d, %d, %d; want %v, %d, %d", sample.Text(n), told, gotValue, gotFail, e, m.told, value, fail)
	}
	if p, met := merge.First(n); met != (fail != 0) || met && !slices.Equal(p, first) || !met && len(p) != 0 {
		t.Fatalf("%s: first %v, %t; want %v", sample.Text(n), p, met, first)
	}
	if nodes, numbers := merge.Many(n); nodes != m.nodes || numbers != m.numbers {
		t.Fatalf("%s: %d, %d; want %d, %d", sample.Text(n), nodes, numbers, m.nodes, m.numbers)
	}
	return fail != 0
}

// draw makes a node out of kids; how it ends, and what it tells, is chance.
func draw(r *rand.Rand, failing int, kids ...*merge.Node) *merge.Node {
	n := under(kids...)
	for range r.Intn(4) {
		at := r.Intn(len(n.Pieces) + 1)
		n.Pieces = slices.Insert(n.Pieces, at, merge.Piece{Number: int64(r.Intn(100))})
	}
	if r.Intn(100) < failing {
		n.Fail = 1 + r.Intn(50)
	} else {
		n.Value = int64(r.Intn(100))
	}
	return n
}

// tree makes one in which no node stands twice.
func tree(r *rand.Rand, failing, depth int) *merge.Node {
	var kids []*merge.Node
	if depth > 0 {
		for range r.Intn(4) {
			kids = append(kids, tree(r, failing, depth-1))
		}
	}
	return draw(r, failing, kids...)
}

// shared makes one in which nodes stand in several places.
func shared(r *rand.Rand, failing int) *merge.Node {
	made := []*merge.Node{draw(r, failing)}
	for range 1 + r.Intn(7) {
		var kids []*merge.Node
		for range r.Intn(4) {
			kids = append(kids, made[r.Intn(len(made))])
		}
		made = append(made, draw(r, failing, kids...))
	}
	return made[len(made)-1]
}

func TestAgainstTheModel(t *testing.T) { // P7.1
	r := rand.New(rand.NewSource(7))
	fails := 0
	const times = 5000
	for range times {
		for _, n := range []*merge.Node{tree(r, 5, 4), shared(r, 10)} {
			if holds(t, n) {
				fails++
			}
		}
	}
	if fails < times/4 || fails > 2*times-times/4 {
		t.Errorf("%d of %d fail", fails, 2*times)
	}
}

// changed is a node that is the same up to the first failure, the one at the
// path at, and behind it is another one.
func changed(r *rand.Rand, n *merge.Node, at []int) *merge.Node {
	if len(at) == 0 {
		return n
	}
	kids := slices.Clone(n.Kids[:at[0]+1])
	kids[at[0]] = changed(r, kids[at[0]], at[1:])
	last := slices.Index(n.Pieces, merge.Piece{Kid: true, Number: int64(at[0])})
	other := tree(r, 50, 2)
	pieces := slices.Clone(n.Pieces[:last+1])
	for _, p := range other.Pieces {
		if p.Kid {
			p.Number += int64(len(kids))
		}
		pieces = append(pieces, p)
	}
	return &merge.Node{Pieces: pieces, Kids: append(kids, other.Kids...), Value: other.Value, Fail: other.Fail}
}

func TestWhatStandsBehindTheFirstFailureDoesNotMatter(t *testing.T) { // P7.2
	r := rand.New(rand.NewSource(8))
	others := 0
	for range 5000 {
		n := tree(r, 15, 4)
		first, met := merge.First(n)
		if !met {
			continue
		}
		other := changed(r, n, first)
		if sample.Text(other) != sample.Text(n) {
			others++
		}
		told, value, fail, e := merge.Merge(n)
		toldThen, valueThen, failThen, eThen := merge.Merge(other)
		if !slices.Equal(told, toldThen) || value != valueThen || fail != failThen || e != api.OK || eThen != api.OK {
			t.Fatalf("%s, %s: %v, %d, %d; %v, %d, %d", sample.Text(n), sample.Text(other), told, value, fail, toldThen, valueThen, failThen)
		}
		if firstThen, met := merge.First(other); !met || path.Compare(first, firstThen) != 0 {
			t.Fatalf("%s, %s: %v, %v", sample.Text(n), sample.Text(other), first, firstThen)
		}
	}
	if others < 500 {
		t.Errorf("only %d other ones", others)
	}
}

func TestFewNodesInManyPlaces(t *testing.T) { // R1, R6: it ends, and numbers go round
	const wide = 1000
	n := under()
	want := 1
	for range api.MaxDepth - 1 {
		n = under(slices.Repeat([]*merge.Node{n}, wide)...)
		want = 1 + wide*want
	}
	n = under(n, n, sample.Node("(8 !40)"), n)
	told, _, fail, e := merge.Merge(n)
	if !merge.Right(n) || e != api.OK || fail != 40 || !slices.Equal(told, []int64{8}) {
		t.Errorf("%v, %d, %d", told, fail, e)
	}
	if p, met := merge.First(n); !met || !slices.Equal(p, []int{2}) {
		t.Errorf("first %v, %t", p, met)
	}
	if nodes, numbers := merge.Many(n); nodes != 2+3*want || numbers != 1 {
		t.Errorf("%d, %d; want %d", nodes, numbers, 2+3*want)
	}
	// First need not go through what is told to know who fails.
	loud := sample.Node("(1)")
	for range api.MaxDepth {
		loud = under(slices.Repeat([]*merge.Node{loud}, wide)...)
	}
	if p, met := merge.First(loud); met || len(p) != 0 {
		t.Errorf("first %v, %t", p, met)
	}
}

func TestWhatIsHandedInStaysAndOutIsNew(t *testing.T) { // R3, R4
	r := rand.New(rand.NewSource(9))
	for range 500 {
		n := tree(r, 5, 3)
		n.Pieces = append(n.Pieces, merge.Piece{Number: 77})
		whole := n.Pieces
		n.Pieces = n.Pieces[:len(whole)-1]
		text := sample.Text(n)
		told, _, _, _ := merge.Merge(n)
		first, _ := merge.First(n)
		kept, keptFirst := slices.Clone(told), slices.Clone(first)
		for i := range told {
			told[i] = -1
		}
		for i := range first {
			first[i] = -1
		}
		again, _, _, _ := merge.Merge(n)
		if firstAgain, _ := merge.First(n); !slices.Equal(again, kept) || !slices.Equal(firstAgain, keptFirst) {
			t.Fatalf("%s: %v, %v; %v, %v", text, kept, keptFirst, again, firstAgain)
		}
		if sample.Text(n) != text || whole[len(whole)-1] != (merge.Piece{Number: 77}) {
			t.Fatalf("%s is changed: %s", text, sample.Text(n))
		}
	}
	n := &merge.Node{Pieces: []merge.Piece{}, Kids: []*merge.Node{}}
	if told, _, _, e := merge.Merge(n); !merge.Right(n) || e != api.OK || len(told) != 0 {
		t.Errorf("empty lists: %v, %d", told, e)
	}
}
