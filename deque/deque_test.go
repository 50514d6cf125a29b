package deque_test

import (
	"math"
	"testing"

	"haymow/api"
	"haymow/deque"
	"haymow/mem"
)

const kinds = 3

// made is a deque in a memory that has just room for it behind base words.
func made(t *testing.T, kind, base, room int) (*mem.Mem, deque.Deque) {
	t.Helper()
	m, e := mem.New(base + deque.Words(room))
	if e != api.OK {
		t.Fatalf("a memory: %d", e)
	}
	d, e := deque.New(m, kind, base, room)
	if e != api.OK {
		t.Fatalf("New of kind %d at %d with room %d: %d", kind, base, room, e)
	}
	return m, d
}

// run lets an operation end alone, and tells in how many moves it did.
func run(t *testing.T, m *mem.Mem, o *deque.Op) (x int64, e api.Errno, moves int) {
	t.Helper()
	for moves = 1; !o.Move(m); moves++ {
		if moves > 20 {
			t.Fatal("an operation does not end")
		}
	}
	x, e = o.End()
	return x, e, moves
}

// moved is an operation behind some moves.
func moved(m *mem.Mem, o *deque.Op, moves int) *deque.Op {
	for range moves {
		o.Move(m)
	}
	return o
}

// does runs an operation of which the end is known.
func does(t *testing.T, m *mem.Mem, what string, o *deque.Op, x int64, e api.Errno) {
	t.Helper()
	if gotX, gotE, _ := run(t, m, o); gotX != x || gotE != e {
		t.Errorf("%s: %d, %d; want %d, %d", what, gotX, gotE, x, e)
	}
}

func TestExample(t *testing.T) { // example 1
	for kind, want := range map[int]int64{1: 6, 2: 6, 3: 5} {
		m, d := made(t, kind, 0, 2)
		does(t, m, "push 5", d.Push(5), 0, api.OK)
		does(t, m, "push 6", d.Push(6), 0, api.OK)
		does(t, m, "pop", d.Pop(), want, api.OK)
	}
}

func TestWords(t *testing.T) { // P9.1
	for room, want := range map[int]int{
		1: 3, 2: 4, 999: 1001, 1000: 1002,
		0: 0, -1: 0, -2: 0, 1001: 0, math.MinInt: 0, math.MaxInt: 0,
	} {
		if got := deque.Words(room); got != want {
			t.Errorf("Words(%d): %d, want %d", room, got, want)
		}
	}
}

func TestNewMakesItsWordsLive(t *testing.T) { // P9.1
	for kind := 1; kind <= kinds; kind++ {
		for _, c := range []struct{ base, room int }{{0, 1}, {3, 4}, {1, 1000}, {api.MaxWords - 1002 - 2, 1000}} {
			words := c.base + c.room + 2
			m, _ := mem.New(words + 2)
			d, e := deque.New(m, kind, c.base, c.room)
			if e != api.OK || d == (deque.Deque{}) {
				t.Fatalf("New of kind %d at %d with room %d: %d", kind, c.base, c.room, e)
			}
			if m.Steps() != 0 {
				t.Errorf("New does %d steps", m.Steps())
			}
			for at := range m.Words() {
				want := api.OK
				if at < c.base || at >= words {
					want = api.ErrFree
				}
				if n, e := m.Load(at); n != 0 || e != want {
					t.Fatalf("New of kind %d at %d with room %d: word %d is %d, %d", kind, c.base, c.room, at, n, e)
				}
			}
		}
	}
}

func TestNewFits(t *testing.T) { // P9.1: a deque may end where the memory does
	m, _ := mem.New(5)
	if _, e := deque.New(m, 1, 1, 2); e != api.OK {
		t.Errorf("4 words behind the first of 5: %d", e)
	}
	if _, e := deque.New(m, 1, 0, 1); e != api.ErrState {
		t.Errorf("3 words of which 2 are another deque's: %d", e)
	}
	if e := m.Free(1, 4); e != api.OK {
		t.Fatalf("Free: %d", e)
	}
	if _, e := deque.New(m, 2, 2, 1); e != api.OK {
		t.Errorf("words that are free again: %d", e)
	}
}

func TestNewRefuses(t *testing.T) { // P9.1, R2
	for _, c := range []struct {
		kind, base, room int
		want             api.Errno
	}{
		{0, 0, 1, api.ErrArg}, {4, 0, 1, api.ErrArg}, {-1, 0, 1, api.ErrArg}, {math.MaxInt, 0, 1, api.ErrArg}, {math.MinInt, 0, 1, api.ErrArg},
		{1, 0, 0, api.ErrArg}, {2, 0, -1, api.ErrArg}, {3, 0, 1001, api.ErrArg}, {1, 0, math.MaxInt, api.ErrArg}, {1, 0, math.MinInt, api.ErrArg},
		{0, -1, 1, api.ErrArg}, {1, -1, 0, api.ErrArg}, {4, 8, 1, api.ErrArg}, {1, 8, 1001, api.ErrArg},
		{1, -1, 1, api.ErrRange}, {2, 8, 1, api.ErrRange}, {3, 10, 1, api.ErrRange}, {1, 11, 1, api.ErrRange}, {2, 0, 9, api.ErrRange}, {3, 0, 1000, api.ErrRange},
		{1, math.MaxInt, 1, api.ErrRange}, {2, math.MinInt, 1000, api.ErrRange}, {3, math.MaxInt - 1, 1000, api.ErrRange},
		{1, 3, 1, api.ErrState}, {2, 5, 3, api.ErrState}, {3, 0, 4, api.ErrState},
	} {
		m, _ := mem.New(10)
		m.Live(5, 1)
		m.Store(5, 44)
		d, e := deque.New(m, c.kind, c.base, c.room)
		if e != c.want || d != (deque.Deque{}) {
			t.Errorf("New(%d, %d, %d): %v, %d; want nothing, %d", c.kind, c.base, c.room, d, e, c.want)
		}
		for at := range m.Words() {
			n, e := m.Load(at)
			if at == 5 && (n != 44 || e != api.OK) || at != 5 && e != api.ErrFree {
				t.Errorf("behind New(%d, %d, %d), which is refused, the word %d is %d, %d", c.kind, c.base, c.room, at, n, e)
			}
		}
	}
}

func TestNewInNoMemory(t *testing.T) { // P9.1, R1
	if d, e := deque.New(nil, 1, 0, 1); e != api.ErrState || d != (deque.Deque{}) {
		t.Errorf("no memory: %d", e)
	}
	if d, e := deque.New(nil, 0, 0, 1); e != api.ErrArg || d != (deque.Deque{}) {
		t.Errorf("no memory, and no kind: %d", e)
	}
	none, _ := mem.New(0)
	if d, e := deque.New(none, 1, 0, 1); e != api.ErrRange || d != (deque.Deque{}) {
		t.Errorf("a memory without words: %d", e)
	}
}

// operations are those of a deque, by their names in tests.
func operations(d deque.Deque) map[string]*deque.Op {
	return map[string]*deque.Op{"push": d.Push(7), "pop": d.Pop(), "steal": d.Steal()}
}

func TestNotMoved(t *testing.T) { // P9.2: to begin an operation is no move of it
	for kind := 1; kind <= kinds; kind++ {
		m, d := made(t, kind, 0, 2)
		for name, o := range operations(d) {
			if x, e := o.End(); x != 0 || e != api.ErrState {
				t.Errorf("kind %d, %s: the end of one that has not moved: %d, %d", kind, name, x, e)
			}
		}
		if m.Steps() != 0 {
			t.Errorf("kind %d: %d steps without a move", kind, m.Steps())
		}
	}
}

func TestEndStays(t *testing.T) { // P9.2: an ended one does nothing
	for kind := 1; kind <= kinds; kind++ {
		m, d := made(t, kind, 0, 2)
		does(t, m, "push", d.Push(5), 0, api.OK)
		for name, o := range operations(d) {
			for !o.Move(m) {
				if x, e := o.End(); x != 0 || e != api.ErrState {
					t.Errorf("kind %d, %s: the end of one that has not ended: %d, %d", kind, name, x, e)
				}
			}
			x, e := o.End()
			steps := m.Steps()
			for range 3 {
				if !o.Move(m) {
					t.Errorf("kind %d, %s: it goes on behind its end", kind, name)
				}
				if y, f := o.End(); x != y || e != f {
					t.Errorf("kind %d, %s: it ended with %d, %d, and then with %d, %d", kind, name, x, e, y, f)
				}
			}
			if !o.Move(nil) || m.Steps() != steps {
				t.Errorf("kind %d, %s: it does steps behind its end", kind, name)
			}
		}
	}
}

func TestNone(t *testing.T) { // P9.2, R1: of none
	m, _ := made(t, 1, 0, 2)
	var none *deque.Op
	var zero deque.Deque
	for name, o := range map[string]*deque.Op{
		"nil": none, "a zero one": new(deque.Op),
		"a push of no deque": zero.Push(1), "a pop of no deque": zero.Pop(), "a steal of no deque": zero.Steal(),
	} {
		for range 2 {
			if !o.Move(m) || !o.Move(nil) {
				t.Errorf("%s goes on", name)
			}
			if x, e := o.End(); x != 0 || e != api.ErrState {
				t.Errorf("%s ends with %d, %d", name, x, e)
			}
		}
	}
	if m.Steps() != 0 {
		t.Errorf("none does %d steps", m.Steps())
	}
}

func TestAnyNumberIsHandedOut(t *testing.T) { // P9.2: x from 0 on, 0 and the greatest, too
	for kind := 1; kind <= kinds; kind++ {
		for _, x := range []int64{0, 1, 65535, 65536, math.MaxInt64} {
			m, d := made(t, kind, 0, 1)
			does(t, m, "push", d.Push(x), 0, api.OK)
			does(t, m, "pop", d.Pop(), x, api.OK)
			does(t, m, "push", d.Push(x), 0, api.OK)
			does(t, m, "steal", d.Steal(), x, api.OK)
		}
	}
}

func TestOneThatEndsOtherwiseHandsNothingOut(t *testing.T) { // P9.2, R2
	for kind := 1; kind <= kinds; kind++ {
		m, d := made(t, kind, 0, 1)
		does(t, m, "a pop of nothing", d.Pop(), 0, api.ErrEmpty)
		does(t, m, "a steal of nothing", d.Steal(), 0, api.ErrEmpty)
		does(t, m, "push", d.Push(6), 0, api.OK)
		does(t, m, "a push too much", d.Push(7), 0, api.ErrFull)
		late := moved(m, d.Steal(), map[int]int{1: 3, 2: 2, 3: 3}[kind])
		does(t, m, "steal", d.Steal(), 6, api.OK)
		does(t, m, "a steal that is late", late, 0, api.ErrAbort)
	}
}

func TestNoMemory(t *testing.T) { // R1: nothing is promised of another memory, but that it ends without a panic
	for kind := 1; kind <= kinds; kind++ {
		_, d := made(t, kind, 0, 2)
		for name, o := range operations(d) {
			if !o.Move(nil) {
				t.Errorf("kind %d, %s: goes on in no memory", kind, name)
			}
			if x, e := o.End(); x != 0 || e != api.ErrState {
				t.Errorf("kind %d, %s in no memory: %d, %d", kind, name, x, e)
			}
		}
	}
}

func TestAnyWords(t *testing.T) { // R1: whatever somebody else has stored in its words, an operation ends
	words := []int64{0, 1, 2, 3, -1, 65535, 65536, 65537, -65536, math.MaxInt64, math.MinInt64, math.MaxInt64 - 65535}
	for kind := 1; kind <= kinds; kind++ {
		for _, e := range words {
			for _, top := range words {
				m, d := made(t, kind, 1, 2)
				for name := range operations(d) {
					m.Store(1, e)
					m.Store(2, top)
					o := operations(d)[name]
					if _, _, moves := run(t, m, o); moves > 7 {
						t.Errorf("kind %d, %s with E %d and T %d: %d moves", kind, name, e, top, moves)
					}
				}
			}
		}
	}
}
