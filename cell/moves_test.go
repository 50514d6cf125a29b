package cell_test

import (
	"slices"
	"strconv"
	"strings"
	"testing"

	"haymow/api"
	"haymow/cell"
	"haymow/mem"
)

// The words of a row: a cell, and the link of the one who waits, with others
// ahead, between and behind.
const (
	rowBase  = 2
	rowLink  = 6
	rowWords = 9
)

// row is an operation (a wait of 9, or a fill with 5 and 6), the words H, value,
// why and link at its beginning, and its moves: which word each looks at, and
// all four behind it. Ahead of a move somebody else may store something in H.
type row struct {
	what, start string
	moves       []string
	end         cell.End
}

func rows() []row {
	waits := cell.End{Waits: true}
	return []row{
		{"wait", "0 1 2 3", []string{"H: 0 1 2 3", "L: 0 1 2 0", "H: 9 1 2 0"}, waits},
		{"wait", "4 1 2 3", []string{"H: 4 1 2 3", "L: 4 1 2 4", "H: 9 1 2 4"}, waits},
		{"wait", "-1 1 2 3", []string{"H: -1 1 2 3", "V: -1 1 2 3", "W: -1 1 2 3"}, cell.End{Value: 1, Why: 2}},
		{"wait", "-1 0 0 3", []string{"H: -1 0 0 3", "V: -1 0 0 3", "W: -1 0 0 3"}, cell.End{}},
		{"wait", "0 1 2 3", []string{"H: 0 1 2 3", "H=4 > L: 4 1 2 0", "H: 4 1 2 0", "H: 4 1 2 0", "L: 4 1 2 4", "H: 9 1 2 4"}, waits},
		{"wait", "0 1 2 3", []string{"H: 0 1 2 3", "L: 0 1 2 0", "H=-1 > H: -1 1 2 0", "H: -1 1 2 0", "V: -1 1 2 0", "W: -1 1 2 0"}, cell.End{Value: 1, Why: 2}},
		{"wait", "4 1 2 3", []string{"H: 4 1 2 3", "L: 4 1 2 4", "H=8 > H: 8 1 2 4", "H: 8 1 2 4", "L: 8 1 2 8", "H=7 > H: 7 1 2 8", "H: 7 1 2 8", "L: 7 1 2 7", "H: 9 1 2 7"}, waits},
		{"wait", "0 1 2 3", []string{"H=-1 > H: -1 1 2 3", "V: -1 1 2 3", "H=0 > W: 0 1 2 3"}, cell.End{Value: 1, Why: 2}},
		{"wait", "0 1 2 3", []string{"H: 0 1 2 3", "H=4 > L: 4 1 2 0", "H=0 > H: 9 1 2 0"}, waits},

		{"fill", "0 1 2 3", []string{"V: 0 5 2 3", "W: 0 5 6 3", "H: 0 5 6 3", "H: -1 5 6 3"}, cell.End{}},
		{"fill", "4 1 2 3", []string{"V: 4 5 2 3", "W: 4 5 6 3", "H: 4 5 6 3", "H: -1 5 6 3"}, cell.End{First: 4}},
		{"fill", "0 1 2 3", []string{"V: 0 5 2 3", "H=4 > W: 4 5 6 3", "H: 4 5 6 3", "H: -1 5 6 3"}, cell.End{First: 4}},
		{"fill", "0 1 2 3", []string{"V: 0 5 2 3", "W: 0 5 6 3", "H: 0 5 6 3", "H=4 > H: 4 5 6 3", "H: 4 5 6 3", "H: -1 5 6 3"}, cell.End{First: 4}},
		{"fill", "4 1 2 3", []string{"V: 4 5 2 3", "W: 4 5 6 3", "H: 4 5 6 3", "H=7 > H: 7 5 6 3", "H=8 > H: 8 5 6 3", "H=7 > H: 7 5 6 3", "H: 7 5 6 3", "H: -1 5 6 3"}, cell.End{First: 7}},
		{"fill", "-1 1 2 3", []string{"V: -1 5 2 3", "W: -1 5 6 3", "H: -1 5 6 3", "H: -1 5 6 3"}, cell.End{First: -1}},
	}
}

// begun is the row's operation, which has not moved, in a memory of which all
// words are live.
func (r row) begun(t *testing.T) (*mem.Mem, *cell.Op) {
	t.Helper()
	m := live(t, rowWords)
	for at, n := range laid(r.start) {
		m.Store(at, n)
	}
	c := cell.At(rowBase)
	return m, map[string]*cell.Op{"wait": c.Wait(9, rowLink), "fill": c.Fill(5, 6)}[r.what]
}

// laid are all words of the memory, those beside the row's being -7.
func laid(text string) []int64 {
	words := slices.Repeat([]int64{-7}, rowWords)
	four := numbers(text)
	copy(words[rowBase:], four[:3])
	words[rowLink] = four[3]
	return words
}

func numbers(text string) (out []int64) {
	for _, s := range strings.Fields(text) {
		n, err := strconv.ParseInt(s, 10, 64)
		if err != nil {
			panic(err)
		}
		out = append(out, n)
	}
	return out
}

// meddled stores in H what somebody else does ahead of a move, and tells which
// word the move looks at, and all words behind it.
func meddled(m *mem.Mem, move string) (looks int, words []int64) {
	if ahead, rest, found := strings.Cut(move, " > "); found {
		m.Store(rowBase, numbers(strings.TrimPrefix(ahead, "H="))[0])
		move = rest
	}
	name, rest, _ := strings.Cut(move, ": ")
	return map[string]int{"H": rowBase, "V": rowBase + 1, "W": rowBase + 2, "L": rowLink}[name], laid(rest)
}

func all(m *mem.Mem) (out []int64) {
	for at := range m.Words() {
		n, _ := m.Load(at)
		out = append(out, n)
	}
	return out
}

func TestMoves(t *testing.T) { // P13.1: the chapter's moves, one step each
	for _, r := range rows() {
		m, o := r.begun(t)
		for i, move := range r.moves {
			_, want := meddled(m, move)
			steps := m.Steps()
			ended := o.Move(m)
			if m.Steps() != steps+1 {
				t.Errorf("%v: move %d does %d steps", r, i+1, m.Steps()-steps)
			}
			if ended != (i+1 == len(r.moves)) {
				t.Fatalf("%v: behind move %d ended is %t", r, i+1, ended)
			}
			if got := all(m); !slices.Equal(got, want) {
				t.Fatalf("%v: behind move %d the words are %v, want %v", r, i+1, got, want)
			}
		}
		if end, e := o.End(); end != r.end || e != api.OK {
			t.Errorf("%v: ended with %v, %d", r, end, e)
		}
	}
}

func TestFaults(t *testing.T) { // P13.1: a fault ends it; a move looks at its own word alone
	for _, r := range rows() {
		for i := range r.moves {
			for free := range rowWords {
				r.faults(t, i, free)
			}
		}
	}
}

// faults does the i moves ahead of one, makes a word free, and does that one.
func (r row) faults(t *testing.T, i, free int) {
	t.Helper()
	m, o := r.begun(t)
	for _, move := range r.moves[:i] {
		meddled(m, move)
		o.Move(m)
	}
	looks, _ := meddled(m, r.moves[i])
	m.Free(free, 1)
	steps := m.Steps()
	ended := o.Move(m)
	if free != looks {
		if m.Steps() != steps+1 || ended != (i+1 == len(r.moves)) {
			t.Errorf("%v: move %d minds that the word %d is free", r, i+1, free)
		}
		return
	}
	if !ended || m.Steps() != steps {
		t.Errorf("%v: move %d goes on without the word %d", r, i+1, free)
	}
	m.Live(free, 1)
	if !o.Move(m) || m.Steps() != steps {
		t.Errorf("%v: it goes on behind the fault of move %d", r, i+1)
	}
	if end, e := o.End(); end != (cell.End{}) || e != api.ErrFree {
		t.Errorf("%v: behind the fault of move %d it ended with %v, %d", r, i+1, end, e)
	}
}
