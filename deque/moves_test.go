package deque_test

import (
	"slices"
	"strconv"
	"strings"
	"testing"

	"haymow/api"
	"haymow/deque"
	"haymow/mem"
)

// A run is one operation, move by move, in a deque of room 3 whose words are
// told: E, T, and the slots. A move is told as the word it looks at (E, T or a
// slot's number) and all words behind it; "T=5 >" ahead of it says what
// somebody else stores in T ahead of the move.
type row struct {
	kind  int
	what  string
	start string
	moves []string
	x     int64
	e     api.Errno
}

// rows are the table of the chapter. (65536 is the tag 1.)
func rows() []row {
	return []row{
		{1, "push", "1 65537 4 5 6", []string{"E: 1 65537 4 5 6", "1: 1 65537 4 9 6", "E: 2 65537 4 9 6"}, 0, api.OK},
		{1, "push", "2 2 4 5 6", []string{"E: 2 2 4 5 6", "2: 2 2 4 5 9", "E: 3 2 4 5 9"}, 0, api.OK},
		{1, "push", "3 65538 4 5 6", []string{"E: 3 65538 4 5 6"}, 0, api.ErrFull},

		{1, "pop", "0 65536 4 5 6", []string{"E: 0 65536 4 5 6"}, 0, api.ErrEmpty},
		{1, "pop", "2 65536 4 5 6", []string{"E: 2 65536 4 5 6", "E: 1 65536 4 5 6", "1: 1 65536 4 5 6", "T: 1 65536 4 5 6"}, 5, api.OK},
		{1, "pop", "3 131073 4 5 6", []string{"E: 3 131073 4 5 6", "E: 2 131073 4 5 6", "2: 2 131073 4 5 6", "T: 2 131073 4 5 6"}, 6, api.OK},
		{1, "pop", "2 65537 4 5 6", []string{"E: 2 65537 4 5 6", "E: 1 65537 4 5 6", "1: 1 65537 4 5 6", "T: 1 65537 4 5 6", "E: 0 65537 4 5 6", "T: 0 131072 4 5 6"}, 5, api.OK},
		{1, "pop", "2 65538 4 5 6", []string{"E: 2 65538 4 5 6", "E: 1 65538 4 5 6", "1: 1 65538 4 5 6", "T: 1 65538 4 5 6", "E: 0 65538 4 5 6", "T: 0 131072 4 5 6"}, 0, api.ErrEmpty},
		{1, "pop", "1 0 4 5 6", []string{"E: 1 0 4 5 6", "E: 0 0 4 5 6", "0: 0 0 4 5 6", "T: 0 0 4 5 6", "E: 0 0 4 5 6", "T=1 > T: 0 1 4 5 6", "T: 0 65536 4 5 6"}, 0, api.ErrEmpty},
		{1, "pop", "1 0 4 5 6", []string{"E: 1 0 4 5 6", "E: 0 0 4 5 6", "0: 0 0 4 5 6", "T=1 > T: 0 1 4 5 6", "E: 0 1 4 5 6", "T: 0 65536 4 5 6"}, 0, api.ErrEmpty},
		{1, "pop", "2 0 4 5 6", []string{"E: 2 0 4 5 6", "E: 1 0 4 5 6", "1: 1 0 4 5 6", "T=1 > T: 1 1 4 5 6", "E: 0 1 4 5 6", "T: 0 65536 4 5 6"}, 5, api.OK},

		{1, "steal", "2 65537 4 5 6", []string{"T: 2 65537 4 5 6", "E: 2 65537 4 5 6", "1: 2 65537 4 5 6", "T: 2 65538 4 5 6"}, 5, api.OK},
		{1, "steal", "3 0 4 5 6", []string{"T: 3 0 4 5 6", "E: 3 0 4 5 6", "0: 3 0 4 5 6", "T: 3 1 4 5 6"}, 4, api.OK},
		{1, "steal", "2 2 4 5 6", []string{"T: 2 2 4 5 6", "E: 2 2 4 5 6"}, 0, api.ErrEmpty},
		{1, "steal", "1 65538 4 5 6", []string{"T: 1 65538 4 5 6", "E: 1 65538 4 5 6"}, 0, api.ErrEmpty},
		{1, "steal", "3 0 4 5 6", []string{"T: 3 0 4 5 6", "E: 3 0 4 5 6", "0: 3 0 4 5 6", "T=1 > T: 3 1 4 5 6"}, 0, api.ErrAbort},
		{1, "steal", "3 0 4 5 6", []string{"T: 3 0 4 5 6", "E: 3 0 4 5 6", "0: 3 0 4 5 6", "T=65536 > T: 3 65536 4 5 6"}, 0, api.ErrAbort},
		{1, "steal", "1 0 4 5 6", []string{"T: 1 0 4 5 6", "E=0 > E: 0 0 4 5 6"}, 0, api.ErrEmpty},

		{2, "push", "8 65537 4 5 6", []string{"T: 8 65537 4 5 6", "1: 8 65537 4 9 6", "T: 8 131074 4 9 6"}, 0, api.OK},
		{2, "push", "8 0 4 5 6", []string{"T: 8 0 4 5 6", "0: 8 0 9 5 6", "T: 8 65537 9 5 6"}, 0, api.OK},
		{2, "push", "8 65539 4 5 6", []string{"T: 8 65539 4 5 6"}, 0, api.ErrFull},
		{2, "push", "8 2 4 5 6", []string{"T: 8 2 4 5 6", "T=1 > 2: 8 1 4 5 9", "T: 8 65539 4 5 9"}, 0, api.OK},

		{2, "pop", "8 65538 4 5 6", []string{"T: 8 65538 4 5 6", "1: 8 65538 4 5 6", "T: 8 65537 4 5 6"}, 5, api.OK},
		{2, "pop", "8 65537 4 5 6", []string{"T: 8 65537 4 5 6", "0: 8 65537 4 5 6", "T: 8 65536 4 5 6"}, 4, api.OK},
		{2, "pop", "8 65536 4 5 6", []string{"T: 8 65536 4 5 6"}, 0, api.ErrEmpty},
		{2, "pop", "8 3 4 5 6", []string{"T: 8 3 4 5 6", "2: 8 3 4 5 6", "T=1 > T: 8 2 4 5 6"}, 6, api.OK},

		{2, "steal", "8 65538 4 5 6", []string{"T: 8 65538 4 5 6", "1: 8 65538 4 5 6", "T: 8 65537 4 5 6"}, 5, api.OK},
		{2, "steal", "8 65536 4 5 6", []string{"T: 8 65536 4 5 6"}, 0, api.ErrEmpty},
		{2, "steal", "8 3 4 5 6", []string{"T: 8 3 4 5 6", "2: 8 3 4 5 6", "T=2 > T: 8 2 4 5 6"}, 0, api.ErrAbort},
		{2, "steal", "8 3 4 5 6", []string{"T: 8 3 4 5 6", "2: 8 3 4 5 6", "T=65539 > T: 8 65539 4 5 6"}, 0, api.ErrAbort},

		{3, "push", "4 2 4 5 6", []string{"T: 4 2 4 5 6", "E: 4 2 4 5 6", "1: 4 2 4 9 6", "E: 5 2 4 9 6"}, 0, api.OK},
		{3, "push", "0 0 4 5 6", []string{"T: 0 0 4 5 6", "E: 0 0 4 5 6", "0: 0 0 9 5 6", "E: 1 0 9 5 6"}, 0, api.OK},
		{3, "push", "5 2 4 5 6", []string{"T: 5 2 4 5 6", "E: 5 2 4 5 6"}, 0, api.ErrFull},
		{3, "push", "6 2 4 5 6", []string{"T: 6 2 4 5 6", "E: 6 2 4 5 6"}, 0, api.ErrFull},
		{3, "push", "5 2 4 5 6", []string{"T: 5 2 4 5 6", "T=3 > E: 5 3 4 5 6"}, 0, api.ErrFull},
		{3, "push", "65538 65536 4 5 6", []string{"T: 65538 65536 4 5 6", "E: 65538 65536 4 5 6", "0: 65538 65536 9 5 6", "E: 65539 65536 9 5 6"}, 0, api.OK},

		{3, "pop", "5 4 4 5 6", []string{"T: 5 4 4 5 6", "E: 5 4 4 5 6", "1: 5 4 4 5 6", "T: 5 5 4 5 6"}, 5, api.OK},
		{3, "pop", "4 4 4 5 6", []string{"T: 4 4 4 5 6", "E: 4 4 4 5 6"}, 0, api.ErrEmpty},
		{3, "pop", "3 4 4 5 6", []string{"T: 3 4 4 5 6", "E: 3 4 4 5 6"}, 0, api.ErrEmpty},
		{3, "pop", "3 0 4 5 6", []string{"T: 3 0 4 5 6", "E: 3 0 4 5 6", "0: 3 0 4 5 6", "T=2 > T: 3 1 4 5 6"}, 4, api.OK},
		{3, "pop", "65539 65537 4 5 6", []string{"T: 65539 65537 4 5 6", "E: 65539 65537 4 5 6", "2: 65539 65537 4 5 6", "T: 65539 65538 4 5 6"}, 6, api.OK},

		{3, "steal", "5 4 4 5 6", []string{"T: 5 4 4 5 6", "E: 5 4 4 5 6", "1: 5 4 4 5 6", "T: 5 5 4 5 6"}, 5, api.OK},
		{3, "steal", "4 4 4 5 6", []string{"T: 4 4 4 5 6", "E: 4 4 4 5 6"}, 0, api.ErrEmpty},
		{3, "steal", "3 4 4 5 6", []string{"T: 3 4 4 5 6", "E: 3 4 4 5 6"}, 0, api.ErrEmpty},
		{3, "steal", "3 0 4 5 6", []string{"T: 3 0 4 5 6", "E: 3 0 4 5 6", "0: 3 0 4 5 6", "T=1 > T: 3 1 4 5 6"}, 0, api.ErrAbort},
	}
}

const rowBase, rowRoom = 2, 3

// begun is the row's operation, which has not moved, in a memory with two live
// words ahead of the deque, and two behind it.
func (r row) begun(t *testing.T) (*mem.Mem, *deque.Op) {
	t.Helper()
	m, _ := mem.New(rowBase + rowRoom + 4)
	d, e := deque.New(m, r.kind, rowBase, rowRoom)
	if e != api.OK {
		t.Fatalf("New: %d", e)
	}
	m.Live(0, rowBase)
	m.Live(m.Words()-2, 2)
	for at := range m.Words() {
		m.Store(at, -1)
	}
	for i, n := range numbers(r.start) {
		m.Store(rowBase+i, n)
	}
	return m, map[string]*deque.Op{"push": d.Push(9), "pop": d.Pop(), "steal": d.Steal()}[r.what]
}

// told takes a move apart: what is stored ahead of it, if anything is, which
// word it looks at, and all words behind it.
func told(move string) (meddles bool, at int, n int64, looks int, words []int64) {
	if ahead, rest, found := strings.Cut(move, " > "); found {
		name, number, _ := strings.Cut(ahead, "=")
		meddles, at, n, move = true, word(name), numbers(number)[0], rest
	}
	name, rest, _ := strings.Cut(move, ": ")
	return meddles, at, n, word(name), slices.Concat([]int64{-1, -1}, numbers(rest), []int64{-1, -1})
}

func word(name string) int {
	switch name {
	case "E":
		return rowBase
	case "T":
		return rowBase + 1
	}
	return rowBase + 2 + int(numbers(name)[0])
}

func numbers(text string) (out []int64) {
	for _, s := range strings.Fields(text) {
		n, err := strconv.ParseInt(s, 10, 64)
		if err != nil {
			panic(err)
		}
		out = append(out, n)
	}
	return out
}

func all(m *mem.Mem) (out []int64) {
	for at := range m.Words() {
		n, _ := m.Load(at)
		out = append(out, n)
	}
	return out
}

func TestMoves(t *testing.T) { // P9.2: the table, move by move, one step each
	for _, r := range rows() {
		m, o := r.begun(t)
		for i, move := range r.moves {
			meddles, at, n, _, want := told(move)
			if meddles {
				m.Store(at, n)
			}
			steps := m.Steps()
			ended := o.Move(m)
			if m.Steps() != steps+1 {
				t.Errorf("%v: move %d does %d steps", r, i+1, m.Steps()-steps)
			}
			if ended != (i+1 == len(r.moves)) {
				t.Fatalf("%v: behind move %d ended is %v", r, i+1, ended)
			}
			if got := all(m); !slices.Equal(got, want) {
				t.Fatalf("%v: behind move %d the words are %v, want %v", r, i+1, got, want)
			}
		}
		if x, e := o.End(); x != r.x || e != r.e {
			t.Errorf("%v: ended with %d, %d", r, x, e)
		}
	}
}

func TestFaults(t *testing.T) { // P9.2: a fault ends it; a move looks at its own word alone
	for _, r := range rows() {
		for i := range r.moves {
			for free := range rowBase + rowRoom + 4 {
				r.faults(t, i, free)
			}
		}
	}
}

// faults does the i moves ahead of one, makes a word free, and does that one.
func (r row) faults(t *testing.T, i, free int) {
	t.Helper()
	m, o := r.begun(t)
	looks := 0
	for k, move := range r.moves[:i+1] {
		meddles, at, n, own, _ := told(move)
		if meddles {
			m.Store(at, n)
		}
		looks = own
		if k < i {
			o.Move(m)
		}
	}
	m.Free(free, 1)
	steps := m.Steps()
	ended := o.Move(m)
	if free != looks {
		if m.Steps() != steps+1 || ended != (i+1 == len(r.moves)) {
			t.Errorf("%v: move %d minds that the word %d is free", r, i+1, free)
		}
		return
	}
	if !ended || m.Steps() != steps {
		t.Errorf("%v: move %d goes on without the word %d", r, i+1, free)
	}
	m.Live(free, 1)
	if !o.Move(m) || m.Steps() != steps {
		t.Errorf("%v: it goes on behind the fault of move %d", r, i+1)
	}
	if x, e := o.End(); x != 0 || e != api.ErrFree {
		t.Errorf("%v: behind the fault of move %d it ended with %d, %d", r, i+1, x, e)
	}
}
