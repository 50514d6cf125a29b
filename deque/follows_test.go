package deque_test

import (
	"math/rand"
	"slices"
	"testing"

	"haymow/api"
	"haymow/deque"
	"haymow/mem"
)

// A game is an owner who goes through a row of operations, and thieves who
// steal, all in one deque, move by move.
type game struct {
	m      *mem.Mem
	d      deque.Deque
	kind   int
	owner  *deque.Op
	pushes int64 // what the owner is pushing, 0 while it pops
	thief  []*deque.Op
	next   int64
	pushed map[int64]int
	handed map[int64]int
}

func newGame(t *testing.T, kind, room, thieves int) *game {
	t.Helper()
	m, d := made(t, kind, 1, room)
	return &game{m: m, d: d, kind: kind, thief: make([]*deque.Op, thieves), pushed: map[int64]int{}, handed: map[int64]int{}}
}

func (g *game) begin(push bool) {
	g.pushes = 0
	if !push {
		g.owner = g.d.Pop()
		return
	}
	g.next++
	g.pushes = g.next
	g.owner = g.d.Push(g.next)
}

// moveOwner does a move of the owner's operation, and tells whether it ended,
// and how.
func (g *game) moveOwner() (bool, api.Errno) {
	if !g.owner.Move(g.m) {
		return false, api.OK
	}
	x, e := g.owner.End()
	if e == api.OK && g.pushes > 0 {
		g.pushed[g.pushes]++
	} else if e == api.OK {
		g.handed[x]++
	}
	return true, e
}

func (g *game) moveThief(i int) bool {
	if g.thief[i] == nil {
		g.thief[i] = g.d.Steal()
	}
	if !g.thief[i].Move(g.m) {
		return false
	}
	if x, e := g.thief[i].End(); e == api.OK {
		g.handed[x]++
	}
	g.thief[i] = nil
	return true
}

// drain lets the owner pop till it is empty while nobody else moves.
func (g *game) drain(t *testing.T) {
	t.Helper()
	for range 10000 {
		g.begin(false)
		for {
			ended, e := g.moveOwner()
			if e == api.ErrEmpty {
				return
			}
			if ended {
				break
			}
		}
	}
	t.Fatal("it never is empty")
}

// over drains the deque, lets the thieves go on behind it, and holds what was
// handed out against P9.3.
func (g *game) over(t *testing.T, how any) {
	t.Helper()
	for g.owner != nil {
		if ended, _ := g.moveOwner(); ended {
			break
		}
	}
	g.drain(t)
	for x := range g.pushed {
		if n := g.handed[x]; n == 0 || n > 1 && g.kind == 1 {
			t.Fatalf("kind %d, %v: %d was handed out %d times", g.kind, how, x, n)
		}
	}
	for i, o := range g.thief {
		for o != nil && !g.moveThief(i) {
		}
	}
	for x, n := range g.handed {
		if g.pushed[x] == 0 || n > 1 && g.kind == 1 {
			t.Fatalf("kind %d, %v: %d, pushed %d times, was handed out %d times", g.kind, how, x, g.pushed[x], n)
		}
	}
}

// play lets the owner do its operations (push where true) while the thieves
// move when the schedule says so: who moves next, the owner being -1.
func (g *game) play(owner []bool, schedule []int) {
	g.owner = nil
	for _, who := range schedule {
		if who >= 0 {
			g.moveThief(who)
			continue
		}
		if g.owner == nil {
			if len(owner) == 0 {
				continue
			}
			g.begin(owner[0])
			owner = owner[1:]
		}
		if ended, _ := g.moveOwner(); ended {
			g.owner = nil
		}
	}
}

// schedules goes through each row of so many moves of the owner, and so many
// of one thief.
func schedules(owner, thief int, yield func([]int)) {
	row := make([]int, 0, owner+thief)
	var grow func(owner, thief int)
	grow = func(owner, thief int) {
		if owner == 0 && thief == 0 {
			yield(row)
			return
		}
		if owner > 0 {
			row = append(row, -1)
			grow(owner-1, thief)
			row = row[:len(row)-1]
		}
		if thief > 0 {
			row = append(row, 0)
			grow(owner, thief-1)
			row = row[:len(row)-1]
		}
	}
	grow(owner, thief)
}

func TestEverySchedule(t *testing.T) { // P9.3: all interleavings of some moves
	for kind := 1; kind <= kinds; kind++ {
		for _, owner := range [][]bool{{true, false}, {true, true, false, false}, {true, false, true, false}, {true, true, false, true}} {
			schedules(18, 4, func(s []int) {
				g := newGame(t, kind, 2, 1)
				g.play(owner, s)
				g.over(t, s)
			})
		}
		schedules(9, 8, func(s []int) {
			g := newGame(t, kind, 2, 1)
			g.play([]bool{true, true, false}, s)
			g.over(t, s)
		})
	}
}

func TestAnySchedule(t *testing.T) { // P9.3: long interleavings of an owner and some thieves
	for kind := 1; kind <= kinds; kind++ {
		for seed := range int64(1500) {
			pick := rand.New(rand.NewSource(seed))
			thieves := 1 + pick.Intn(4)
			g := newGame(t, kind, 1+pick.Intn(4), thieves)
			owner := make([]bool, 30)
			for i := range owner {
				owner[i] = pick.Intn(5) < 3
			}
			schedule := make([]int, 40+pick.Intn(160))
			for i := range schedule {
				if schedule[i] = -1; pick.Intn(3) > 0 {
					schedule[i] = pick.Intn(thieves)
				}
			}
			g.play(owner, schedule)
			g.over(t, seed)
		}
	}
}

func TestTwiceIsHad(t *testing.T) { // P9.3 is no more than it says: kinds 2 and 3 do hand a number out twice
	for kind, moves := range map[int]int{2: 2, 3: 3} {
		m, d := made(t, kind, 0, 2)
		does(t, m, "push", d.Push(8), 0, api.OK)
		o := moved(m, d.Pop(), moves)
		does(t, m, "steal", d.Steal(), 8, api.OK)
		does(t, m, "pop", o, 8, api.OK)
	}
}

func TestThiefFindsOtherNumberAtItsPlace(t *testing.T) { // P9.3: what the tags are for
	for kind, moves := range map[int]int{1: 3, 2: 2} {
		m, d := made(t, kind, 0, 2)
		does(t, m, "push", d.Push(5), 0, api.OK)
		late := moved(m, d.Steal(), moves)
		does(t, m, "pop", d.Pop(), 5, api.OK)
		does(t, m, "push", d.Push(6), 0, api.OK)
		does(t, m, "a steal of what was popped", late, 0, api.ErrAbort)
		does(t, m, "pop", d.Pop(), 6, api.OK)
	}
}

func TestAlone(t *testing.T) { // P9.3: alone, it is a stack, or a queue; and full where its room ends
	for kind := 1; kind <= kinds; kind++ {
		pick := rand.New(rand.NewSource(int64(kind)))
		for _, room := range []int{1, 2, 3, 7, 1000} {
			m, d := made(t, kind, 0, room)
			var held []int64
			for i := range int64(4000) {
				if pick.Intn(3) < 1+int(i/200)%2 {
					want := api.OK
					if len(held) == room {
						want = api.ErrFull
					} else {
						held = append(held, i)
					}
					does(t, m, "push", d.Push(i), 0, want)
					continue
				}
				if len(held) == 0 {
					does(t, m, "pop", d.Pop(), 0, api.ErrEmpty)
					continue
				}
				at := len(held) - 1
				if kind == 3 {
					at = 0
				}
				does(t, m, "pop", d.Pop(), held[at], api.OK)
				held = slices.Delete(held, at, at+1)
			}
		}
	}
}

func TestFullToItsRoom(t *testing.T) { // P9.2: the greatest room
	for kind := 1; kind <= kinds; kind++ {
		m, d := made(t, kind, 3, 1000)
		for i := range int64(1000) {
			does(t, m, "push", d.Push(i), 0, api.OK)
		}
		does(t, m, "push", d.Push(1000), 0, api.ErrFull)
		for i := range int64(1000) {
			want := i
			if kind == 2 {
				want = 999 - i
			}
			does(t, m, "steal", d.Steal(), want, api.OK)
		}
		does(t, m, "steal", d.Steal(), 0, api.ErrEmpty)
		does(t, m, "pop", d.Pop(), 0, api.ErrEmpty)
		does(t, m, "push", d.Push(7), 0, api.OK)
		does(t, m, "pop", d.Pop(), 7, api.OK)
	}
}

func TestStolenRoomOfAnExactOne(t *testing.T) { // P9.2: of kind 1 what was stolen leaves no room till a pop finds it empty
	m, d := made(t, 1, 0, 2)
	does(t, m, "push", d.Push(5), 0, api.OK)
	does(t, m, "push", d.Push(6), 0, api.OK)
	does(t, m, "steal", d.Steal(), 5, api.OK)
	does(t, m, "push", d.Push(7), 0, api.ErrFull)
	does(t, m, "steal", d.Steal(), 6, api.OK)
	does(t, m, "push", d.Push(7), 0, api.ErrFull)
	does(t, m, "pop", d.Pop(), 0, api.ErrEmpty)
	does(t, m, "push", d.Push(7), 0, api.OK)
	does(t, m, "push", d.Push(8), 0, api.OK)
	does(t, m, "steal", d.Steal(), 7, api.OK)
	does(t, m, "pop", d.Pop(), 8, api.OK)
}
