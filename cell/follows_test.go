package cell_test

import (
	"math/rand"
	"slices"
	"testing"

	"haymow/api"
	"haymow/cell"
	"haymow/mem"
)

const value, why = 40, 3

// A game is some who wait (1, 2 and so on) and the last one, who fills, all at
// one cell, move by move.
type game struct {
	m   *mem.Mem
	ops []*cell.Op
}

func newGame(t *testing.T, waiters int) *game {
	t.Helper()
	g := &game{m: live(t, cell.Words+waiters)}
	c := cell.At(0)
	for i := range waiters {
		g.ops = append(g.ops, c.Wait(int64(i+1), cell.Words+i))
	}
	g.ops = append(g.ops, c.Fill(value, why))
	return g
}

// play lets who moves be picked among those that have not ended, till all have.
func (g *game) play(t *testing.T, pick func(n int) int) {
	t.Helper()
	left := slices.Clone(g.ops)
	for moves := 0; len(left) > 0; moves++ {
		if moves > 1000 {
			t.Fatal("they do not end")
		}
		if i := pick(len(left)); left[i].Move(g.m) {
			left = slices.Delete(left, i, i+1)
		}
	}
}

// over holds the end of all against P13.2, and tells how many wait.
func (g *game) over(t *testing.T, how any) int {
	t.Helper()
	waiters := len(g.ops) - 1
	end, e := g.ops[waiters].End()
	if e != api.OK || end != (cell.End{First: end.First}) {
		t.Fatalf("%v: the fill ended with %v, %d", how, end, e)
	}
	stands := make([]int, waiters+1)
	row := 0
	for x := end.First; x != 0; row++ {
		if x < 0 || x > int64(waiters) || row > waiters {
			t.Fatalf("%v: %d stands among those who wait", how, x)
		}
		stands[x]++
		x, _ = g.m.Load(cell.Words + int(x) - 1)
	}
	for i, o := range g.ops[:waiters] {
		told, e := o.End()
		want := cell.End{Value: value, Why: why}
		if stands[i+1] > 0 {
			want = cell.End{Waits: true}
		}
		if e != api.OK || told != want || stands[i+1] > 1 {
			t.Fatalf("%v: %d, who stands %d times among those who wait, ended with %v, %d", how, i+1, stands[i+1], told, e)
		}
	}
	if words := all(g.m)[:cell.Words]; !slices.Equal(words, []int64{-1, value, why}) {
		t.Fatalf("%v: the cell is %v", how, words)
	}
	return row
}

// schedules goes through all rows of picks: each time it hands out a pick that
// answers the next row's.
func schedules(try func(pick func(n int) int)) (many int) {
	var row, bounds []int
	for {
		many++
		at := 0
		try(func(n int) int {
			if at == len(row) {
				row, bounds = append(row, 0), append(bounds, n)
			}
			at++
			return row[at-1]
		})
		last := len(row) - 1
		for last >= 0 && row[last]+1 == bounds[last] {
			last--
		}
		if last < 0 {
			return many
		}
		row, bounds = row[:last+1], bounds[:last+1]
		row[last]++
	}
}

func TestEverySchedule(t *testing.T) { // P13.2: all interleavings
	for waiters := range 3 {
		ends := map[int]int{}
		many := schedules(func(pick func(n int) int) {
			g := newGame(t, waiters)
			g.play(t, pick)
			ends[g.over(t, waiters)]++
		})
		for wait := range waiters + 1 {
			if ends[wait] == 0 {
				t.Errorf("of %d schedules of %d who wait none lets %d wait", many, waiters, wait)
			}
		}
	}
}

func TestAnySchedule(t *testing.T) { // P13.2: interleavings of many
	ends := map[bool]int{}
	for seed := range int64(5000) {
		r := rand.New(rand.NewSource(seed))
		waiters := 3 + r.Intn(8)
		g := newGame(t, waiters)
		// One who fills is picked less often in some of them, so that also then
		// some wait who came late.
		slow := r.Intn(3)
		g.play(t, func(n int) int {
			i := r.Intn(n)
			for range slow {
				i = min(i, r.Intn(n))
			}
			return i
		})
		ends[g.over(t, seed) > waiters/2]++
	}
	if ends[true] < 500 || ends[false] < 500 {
		t.Errorf("too much alike: %v", ends)
	}
}

func TestNobodyFills(t *testing.T) { // P13.2: without one who fills all stand there, once
	for seed := range int64(500) {
		r := rand.New(rand.NewSource(seed))
		g := newGame(t, 6)
		fill := g.ops[6]
		g.ops = g.ops[:6]
		g.play(t, r.Intn)
		for !fill.Move(g.m) {
		}
		g.ops = append(g.ops, fill)
		if many := g.over(t, seed); many != 6 {
			t.Fatalf("%d: %d wait", seed, many)
		}
	}
}
