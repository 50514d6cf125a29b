package cell_test

import (
	"math"
	"slices"
	"testing"

	"haymow/api"
	"haymow/cell"
	"haymow/mem"
)

// live is a memory of which all words are live.
func live(t *testing.T, words int) *mem.Mem {
	t.Helper()
	m, e := mem.New(words)
	if e != api.OK || m.Live(0, words) != api.OK {
		t.Fatalf("a memory of %d words: %d", words, e)
	}
	return m
}

// run lets an operation end alone, and tells in how many moves it did.
func run(t *testing.T, m *mem.Mem, o *cell.Op) (end cell.End, e api.Errno, moves int) {
	t.Helper()
	for moves = 1; !o.Move(m); moves++ {
		if moves > 20 {
			t.Fatal("an operation does not end")
		}
	}
	end, e = o.End()
	return end, e, moves
}

// does runs an operation alone, of which the end and the moves are known.
func does(t *testing.T, m *mem.Mem, what string, o *cell.Op, moves int, want cell.End) {
	t.Helper()
	if got, e, n := run(t, m, o); got != want || e != api.OK || n != moves {
		t.Errorf("%s: %v, %d in %d moves; want %v in %d", what, got, e, n, want, moves)
	}
}

// moved is an operation behind some moves.
func moved(m *mem.Mem, o *cell.Op, moves int) *cell.Op {
	for range moves {
		o.Move(m)
	}
	return o
}

func TestExample(t *testing.T) { // P13.1: example 1
	m, c := live(t, 5), cell.At(0)
	does(t, m, "wait of 7", c.Wait(7, 3), 3, cell.End{Waits: true})
	does(t, m, "fill with 5", c.Fill(5, 0), 4, cell.End{First: 7})
	does(t, m, "wait of 8", c.Wait(8, 4), 3, cell.End{Value: 5})
}

func TestWords(t *testing.T) {
	if cell.Words != 3 {
		t.Errorf("%d words", cell.Words)
	}
}

func TestCellsStandBesideEachOther(t *testing.T) { // P13.1: the cell at its place
	m := live(t, 4*cell.Words+2)
	for i := range 4 {
		c := cell.At(1 + i*cell.Words)
		does(t, m, "fill", c.Fill(int64(10+i), int64(20+i)), 4, cell.End{})
	}
	if got, want := all(m), []int64{0, -1, 10, 20, -1, 11, 21, -1, 12, 22, -1, 13, 23, 0}; !slices.Equal(got, want) {
		t.Errorf("%v; want %v", got, want)
	}
	for i := range 4 {
		does(t, m, "wait", cell.At(1+i*cell.Words).Wait(5, 0), 3, cell.End{Value: int64(10 + i), Why: int64(20 + i)})
	}
}

func TestNobodyWaits(t *testing.T) { // P13.1: 0 without
	m := live(t, 3)
	does(t, m, "fill", cell.At(0).Fill(5, 6), 4, cell.End{})
}

func TestWhoWaitsIsFoundByTheLinks(t *testing.T) { // P13.1
	const many = 5
	m, c := live(t, cell.Words+many), cell.At(0)
	for x := range int64(many) {
		does(t, m, "wait", c.Wait(x+1, cell.Words+int(x)), 3, cell.End{Waits: true})
	}
	does(t, m, "fill", c.Fill(5, 0), 4, cell.End{First: many})
	for x := int64(many); x > 0; x-- {
		if next, e := m.Load(cell.Words + int(x) - 1); next != x-1 || e != api.OK {
			t.Errorf("behind %d is %d, %d", x, next, e)
		}
	}
}

func TestAnyNumbersAreHandedOut(t *testing.T) { // P13.1: also 0, -1, and the least and the greatest
	for _, value := range []int64{0, 1, -1, math.MinInt64, math.MaxInt64} {
		for _, why := range []int64{0, 1, -1, 16, math.MinInt64, math.MaxInt64} {
			m, c := live(t, 5), cell.At(1)
			does(t, m, "wait", c.Wait(math.MaxInt64, 4), 3, cell.End{Waits: true})
			does(t, m, "fill", c.Fill(value, why), 4, cell.End{First: math.MaxInt64})
			does(t, m, "wait", c.Wait(2, 0), 3, cell.End{Value: value, Why: why})
		}
	}
}

func TestOneWhoIsToldLeavesHisLink(t *testing.T) { // P13.1
	m, c := live(t, 4), cell.At(0)
	m.Store(3, 44)
	does(t, m, "fill", c.Fill(5, 6), 4, cell.End{})
	does(t, m, "wait", c.Wait(9, 3), 3, cell.End{Value: 5, Why: 6})
	if n, _ := m.Load(3); n != 44 {
		t.Errorf("the link of one who does not wait is %d", n)
	}
	m.Free(3, 1)
	does(t, m, "wait without a link", c.Wait(9, 3), 3, cell.End{Value: 5, Why: 6})
}

func TestFilledOnceMore(t *testing.T) { // P13.1, word by word: the head was -1, and is so again
	m, c := live(t, 3), cell.At(0)
	does(t, m, "fill", c.Fill(5, 6), 4, cell.End{})
	does(t, m, "fill", c.Fill(7, 8), 4, cell.End{First: -1})
	does(t, m, "wait", c.Wait(1, 0), 3, cell.End{Value: 7, Why: 8})
}

// operations are those of a cell, by their names in tests.
func operations(c cell.Cell) map[string]*cell.Op {
	return map[string]*cell.Op{"wait": c.Wait(7, 3), "fill": c.Fill(5, 6)}
}

func TestNotMoved(t *testing.T) { // P13.1: to begin an operation is no move of it
	for name, o := range operations(cell.At(0)) {
		if end, e := o.End(); end != (cell.End{}) || e != api.ErrState {
			t.Errorf("%s: the end of one that has not moved: %v, %d", name, end, e)
		}
	}
}

func TestEndStays(t *testing.T) { // P13.1: an ended one does nothing; of one that has not ended nothing is told
	for _, fill := range []bool{false, true} {
		for name := range operations(cell.At(0)) {
			m, c := live(t, 4), cell.At(0)
			if fill {
				does(t, m, "fill", c.Fill(1, 2), 4, cell.End{})
			}
			o := operations(c)[name]
			for !o.Move(m) {
				if end, e := o.End(); end != (cell.End{}) || e != api.ErrState {
					t.Errorf("%s: the end of one that has not ended: %v, %d", name, end, e)
				}
			}
			end, e := o.End()
			steps, words := m.Steps(), all(m)
			for range 3 {
				if !o.Move(m) || !o.Move(nil) {
					t.Errorf("%s goes on behind its end", name)
				}
				if again, f := o.End(); again != end || f != e {
					t.Errorf("%s ended with %v, %d, and then with %v, %d", name, end, e, again, f)
				}
			}
			if m.Steps() != steps+len(words) || !slices.Equal(all(m), words) {
				t.Errorf("%s does steps behind its end", name)
			}
		}
	}
}

func TestNone(t *testing.T) { // P13.1, R1
	m := live(t, 4)
	for name, o := range map[string]*cell.Op{"nil": nil, "a zero one": new(cell.Op)} {
		for range 2 {
			if !o.Move(m) || !o.Move(nil) {
				t.Errorf("%s goes on", name)
			}
			if end, e := o.End(); end != (cell.End{}) || e != api.ErrState {
				t.Errorf("%s ends with %v, %d", name, end, e)
			}
		}
	}
	if m.Steps() != 0 {
		t.Errorf("none does %d steps", m.Steps())
	}
}

func TestNoMemory(t *testing.T) { // P13.1, R1: a fault as another one
	for name, o := range operations(cell.At(0)) {
		if !o.Move(nil) {
			t.Errorf("%s goes on in no memory", name)
		}
		if end, e := o.End(); end != (cell.End{}) || e != api.ErrState {
			t.Errorf("%s in no memory: %v, %d", name, end, e)
		}
	}
}

func TestNotThere(t *testing.T) { // P13.1, R1: the memory's faults, at any place
	for _, row := range []struct {
		base        int
		wait, fills api.Errno
	}{
		{math.MinInt, api.ErrRange, api.ErrRange}, {-3, api.ErrRange, api.ErrRange}, {-1, api.ErrRange, api.ErrRange},
		{3, api.OK, api.ErrRange}, {4, api.OK, api.ErrRange}, {5, api.ErrRange, api.ErrRange},
		{math.MaxInt, api.ErrRange, api.ErrRange}, {math.MaxInt - 1, api.ErrRange, api.ErrRange}, {2, api.OK, api.OK},
	} {
		m := live(t, 5)
		want := cell.End{Waits: row.wait == api.OK}
		if end, e, _ := run(t, m, cell.At(row.base).Wait(3, 1)); end != want || e != row.wait {
			t.Errorf("a wait at %d: %v, %d", row.base, end, e)
		}
		m = live(t, 5)
		if end, e, _ := run(t, m, cell.At(row.base).Fill(1, 2)); end != (cell.End{}) || e != row.fills {
			t.Errorf("a fill at %d: %v, %d", row.base, end, e)
		}
	}
	for _, link := range []int{-1, 3, math.MinInt, math.MaxInt} {
		if end, e, moves := run(t, live(t, 3), cell.At(0).Wait(3, link)); end != (cell.End{}) || e != api.ErrRange || moves != 2 {
			t.Errorf("with the link %d: %v, %d in %d moves", link, end, e, moves)
		}
	}
}

func TestOperationsAreApart(t *testing.T) { // P13.1: of one cell as of two
	m, c := live(t, 8), cell.At(0)
	a, b := moved(m, c.Wait(5, 3), 2), moved(m, c.Wait(6, 4), 2)
	far := moved(m, cell.At(5).Fill(8, 9), 3)
	does(t, m, "the second wait", b, 1, cell.End{Waits: true})
	does(t, m, "the first wait, again", a, 4, cell.End{Waits: true})
	does(t, m, "another cell's fill", far, 1, cell.End{})
	does(t, m, "fill", c.Fill(1, 2), 4, cell.End{First: 5})
	if got, want := all(m), []int64{-1, 1, 2, 6, 0, -1, 8, 9}; !slices.Equal(got, want) {
		t.Errorf("%v; want %v", got, want)
	}
}
