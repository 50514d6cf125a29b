package mem_test

import (
	"math"
	"math/rand"
	"testing"

	"haymow/api"
	"haymow/mem"
)

// make4 is a memory of 4 words: the word 1 is 5, the word 2 is 6, the others are free.
func make4(t *testing.T) *mem.Mem {
	t.Helper()
	m, e := mem.New(4)
	if e != api.OK {
		t.Fatalf("New(4): %d", e)
	}
	if e := m.Live(1, 2); e != api.OK {
		t.Fatalf("Live(1, 2): %d", e)
	}
	for at, n := range map[int]int64{1: 5, 2: 6} {
		if e := m.Store(at, n); e != api.OK {
			t.Fatalf("Store(%d, %d): %d", at, n, e)
		}
	}
	return m
}

// look tells each word's number, and free ones by their error.
func look(m *mem.Mem) (numbers []int64, errors []api.Errno) {
	for at := range m.Words() {
		n, e := m.Load(at)
		numbers = append(numbers, n)
		errors = append(errors, e)
	}
	return numbers, errors
}

// stays4 asks whether make4's words are as they were made.
func stays4(t *testing.T, m *mem.Mem, behind string) {
	t.Helper()
	numbers, errors := look(m)
	for at, want := range []struct {
		n int64
		e api.Errno
	}{{0, api.ErrFree}, {5, api.OK}, {6, api.OK}, {0, api.ErrFree}} {
		if numbers[at] != want.n || errors[at] != want.e {
			t.Errorf("behind %s the word %d is %d, %d; want %d, %d", behind, at, numbers[at], errors[at], want.n, want.e)
		}
	}
}

func TestNew(t *testing.T) { // P1.1
	for _, words := range []int{0, 1, 2, 1000, api.MaxWords - 1, api.MaxWords} {
		m, e := mem.New(words)
		if m == nil || e != api.OK {
			t.Errorf("New(%d): %v, %d", words, m == nil, e)
			continue
		}
		if m.Words() != words || m.Steps() != 0 {
			t.Errorf("New(%d) has %d words, %d steps", words, m.Words(), m.Steps())
		}
	}
	for _, words := range []int{-1, math.MinInt, api.MaxWords + 1, 1 << 32, math.MaxInt} {
		if m, e := mem.New(words); m != nil || e != api.ErrArg {
			t.Errorf("New(%d): nil is %v, %d; want nil, ErrArg", words, m == nil, e)
		}
	}
}

func TestAllFreeAtFirst(t *testing.T) { // P1.1
	m, _ := mem.New(api.MaxWords)
	for at := range m.Words() {
		if n, e := m.Load(at); n != 0 || e != api.ErrFree {
			t.Fatalf("the word %d is %d, %d at first", at, n, e)
		}
	}
	if e := m.Live(0, api.MaxWords); e != api.OK {
		t.Fatalf("all live: %d", e)
	}
	for at := range m.Words() {
		if n, e := m.Load(at); n != 0 || e != api.OK {
			t.Fatalf("the word %d is %d, %d when it is live", at, n, e)
		}
	}
	if e := m.Free(0, api.MaxWords); e != api.OK {
		t.Fatalf("all free: %d", e)
	}
	if _, e := m.Load(api.MaxWords - 1); e != api.ErrFree {
		t.Errorf("the last word: %d", e)
	}
}

func TestRowsThatAreNotThere(t *testing.T) { // P1.1
	for _, c := range []struct{ at, n int }{
		{0, -1}, {1, -1}, {4, -1}, {4, -4}, {0, math.MinInt},
		{-1, 0}, {-1, 1}, {-1, 2}, {math.MinInt, 0}, {math.MinInt, 1}, {math.MinInt, math.MinInt},
		{4, 1}, {5, 0}, {5, 1}, {3, 2}, {0, 5}, {1, 4},
		{math.MaxInt, 0}, {math.MaxInt, 1}, {math.MaxInt, math.MaxInt}, {1, math.MaxInt}, {4, math.MaxInt}, {math.MaxInt, 2},
		{math.MaxInt - 2, 5}, {1 << 62, 1 << 62}, {-3, math.MaxInt},
	} {
		m := make4(t)
		if e := m.Live(c.at, c.n); e != api.ErrRange {
			t.Errorf("Live(%d, %d): %d; want ErrRange", c.at, c.n, e)
		}
		stays4(t, m, "a Live out of range")
		if e := m.Free(c.at, c.n); e != api.ErrRange {
			t.Errorf("Free(%d, %d): %d; want ErrRange", c.at, c.n, e)
		}
		stays4(t, m, "a Free out of range")
	}
}

func TestNoWords(t *testing.T) { // P1.1
	m := make4(t)
	for at := 0; at <= 4; at++ {
		if e := m.Live(at, 0); e != api.OK {
			t.Errorf("Live(%d, 0): %d", at, e)
		}
		if e := m.Free(at, 0); e != api.OK {
			t.Errorf("Free(%d, 0): %d", at, e)
		}
	}
	stays4(t, m, "rows of 0 words")

	none, _ := mem.New(0)
	if none.Live(0, 0) != api.OK || none.Free(0, 0) != api.OK {
		t.Error("0 words of a memory without words")
	}
	if none.Live(0, 1) != api.ErrRange || none.Free(0, 1) != api.ErrRange || none.Live(1, 0) != api.ErrRange {
		t.Error("a word of a memory without words")
	}
	if _, e := none.Load(0); e != api.ErrRange {
		t.Errorf("Load of a memory without words: %d", e)
	}
}

func TestLiveOrFreeAlready(t *testing.T) { // P1.1
	for _, c := range []struct{ at, n int }{{1, 1}, {2, 1}, {1, 2}, {0, 2}, {2, 2}, {0, 3}, {1, 3}, {0, 4}} {
		m := make4(t)
		if e := m.Live(c.at, c.n); e != api.ErrState {
			t.Errorf("Live(%d, %d): %d; want ErrState", c.at, c.n, e)
		}
		stays4(t, m, "a Live of live words")
	}
	for _, c := range []struct{ at, n int }{{0, 1}, {3, 1}, {0, 2}, {2, 2}, {0, 3}, {1, 3}, {0, 4}} {
		m := make4(t)
		if e := m.Free(c.at, c.n); e != api.ErrState {
			t.Errorf("Free(%d, %d): %d; want ErrState", c.at, c.n, e)
		}
		stays4(t, m, "a Free of free words")
	}
}

func TestLiveAgainIsZero(t *testing.T) { // P1.1
	m := make4(t)
	if e := m.Free(1, 1); e != api.OK {
		t.Fatalf("Free(1, 1): %d", e)
	}
	if n, e := m.Load(1); n != 0 || e != api.ErrFree {
		t.Errorf("a word that is free again: %d, %d", n, e)
	}
	if n, e := m.Load(2); n != 6 || e != api.OK {
		t.Errorf("its neighbour: %d, %d", n, e)
	}
	if e := m.Live(0, 2); e != api.OK {
		t.Fatalf("Live(0, 2): %d", e)
	}
	if n, e := m.Load(1); n != 0 || e != api.OK {
		t.Errorf("a word that is live again: %d, %d", n, e)
	}
}

// steps are the four kinds; each tells whether its answer beside the error is the zero value.
var steps = []struct {
	name string
	do   func(m *mem.Mem, at int) (zero bool, e api.Errno)
}{
	{"Load", func(m *mem.Mem, at int) (bool, api.Errno) {
		n, e := m.Load(at)
		return n == 0, e
	}},
	{"Store", func(m *mem.Mem, at int) (bool, api.Errno) { return true, m.Store(at, 9) }},
	{"Swap", func(m *mem.Mem, at int) (bool, api.Errno) {
		is, e := m.Swap(at, 0, 9)
		return !is, e
	}},
	{"Add", func(m *mem.Mem, at int) (bool, api.Errno) {
		n, e := m.Add(at, 9)
		return n == 0, e
	}},
}

func TestStepsThatCannotBe(t *testing.T) { // P1.2
	for _, s := range steps {
		for at, want := range map[int]api.Errno{
			0: api.ErrFree, 3: api.ErrFree,
			-1: api.ErrRange, 4: api.ErrRange, math.MinInt: api.ErrRange, math.MaxInt: api.ErrRange, api.MaxWords: api.ErrRange,
		} {
			m := make4(t)
			before := m.Steps()
			if zero, e := s.do(m, at); !zero || e != want {
				t.Errorf("%s at %d: zero is %v, %d; want true, %d", s.name, at, zero, e, want)
			}
			if m.Steps() != before {
				t.Errorf("%s at %d counts, though it has an error", s.name, at)
			}
			stays4(t, m, s.name+" with an error")
		}
	}
}

func TestExample(t *testing.T) { // P1.2
	m, _ := mem.New(4)
	if m.Live(1, 2) != api.OK || m.Store(1, 5) != api.OK {
		t.Fatal("Live, Store")
	}
	if n, e := m.Add(1, 2); n != 7 || e != api.OK {
		t.Errorf("Add(1, 2): %d, %d", n, e)
	}
	if _, e := m.Load(0); e != api.ErrFree {
		t.Errorf("Load(0): %d", e)
	}
	if m.Steps() != 2 {
		t.Errorf("%d steps; want 2: neither Live nor an error is one", m.Steps())
	}
}

func TestSwap(t *testing.T) { // P1.2
	m := make4(t)
	before := m.Steps()
	if is, e := m.Swap(1, 4, 9); is || e != api.OK {
		t.Errorf("Swap(1, 4, 9): %v, %d", is, e)
	}
	stays4(t, m, "an exchange that is none")
	if m.Steps() != before+1+2 {
		t.Errorf("an exchange that is none counts: %d steps behind %d", m.Steps(), before)
	}
	if is, e := m.Swap(1, 5, 9); !is || e != api.OK {
		t.Errorf("Swap(1, 5, 9): %v, %d", is, e)
	}
	if n, _ := m.Load(1); n != 9 {
		t.Errorf("behind an exchange for 9 it is %d", n)
	}
	if is, e := m.Swap(1, 9, 9); !is || e != api.OK {
		t.Errorf("Swap(1, 9, 9): %v, %d", is, e)
	}
}

func TestAddGoesRound(t *testing.T) { // P1.2, R6
	for _, c := range []struct{ is, n, want int64 }{
		{5, 2, 7}, {5, -7, -2}, {5, -5, 0}, {5, 0, 5},
		{math.MaxInt64, 1, math.MinInt64},
		{math.MinInt64, -1, math.MaxInt64},
		{math.MinInt64, math.MinInt64, 0},
		{math.MaxInt64, math.MaxInt64, -2},
	} {
		m := make4(t)
		m.Store(1, c.is)
		if n, e := m.Add(1, c.n); n != c.want || e != api.OK {
			t.Errorf("%d and %d: %d, %d; want %d", c.is, c.n, n, e, c.want)
		}
		if n, e := m.Load(1); n != c.want || e != api.OK {
			t.Errorf("%d and %d: it is %d, %d then; want %d", c.is, c.n, n, e, c.want)
		}
	}
}

func TestStoreTakesAllNumbers(t *testing.T) { // P1.2
	m := make4(t)
	for _, n := range []int64{0, 1, -1, 1 << 31, math.MaxInt64, math.MinInt64} {
		if e := m.Store(2, n); e != api.OK {
			t.Errorf("Store(2, %d): %d", n, e)
		}
		if is, e := m.Load(2); is != n || e != api.OK {
			t.Errorf("behind Store(2, %d) it is %d, %d", n, is, e)
		}
	}
}

func TestNil(t *testing.T) { // P1.2
	var m *mem.Mem
	if m.Words() != 0 || m.Steps() != 0 {
		t.Errorf("nil has %d words, %d steps", m.Words(), m.Steps())
	}
	for _, at := range []int{-1, 0, 1, math.MaxInt} {
		for _, n := range []int{-1, 0, 1, math.MaxInt} {
			if e := m.Live(at, n); e != api.ErrState {
				t.Errorf("Live(%d, %d) of nil: %d", at, n, e)
			}
			if e := m.Free(at, n); e != api.ErrState {
				t.Errorf("Free(%d, %d) of nil: %d", at, n, e)
			}
		}
		for _, s := range steps {
			if zero, e := s.do(m, at); !zero || e != api.ErrState {
				t.Errorf("%s at %d of nil: zero is %v, %d", s.name, at, zero, e)
			}
		}
	}
}

func TestMemoriesAreApart(t *testing.T) { // R5
	a, b := make4(t), make4(t)
	a.Store(1, 9)
	a.Free(2, 1)
	if b.Steps() != 2 {
		t.Errorf("another memory's step counts: %d", b.Steps())
	}
	stays4(t, b, "another memory's steps")
}

func TestNoStepChangesAnotherWord(t *testing.T) { // P1.3
	for at := 1; at <= 3; at++ {
		for _, s := range steps {
			m, _ := mem.New(5)
			m.Live(1, 3)
			for i := 1; i <= 3; i++ {
				m.Store(i, int64(-i))
			}
			m.Store(at, 0)
			s.do(m, at)
			numbers, errors := look(m)
			for i := range numbers {
				live, number := i >= 1 && i <= 3, int64(-i)
				if i != at && live && (numbers[i] != number || errors[i] != api.OK) {
					t.Errorf("%s at %d changes %d to %d, %d", s.name, at, i, numbers[i], errors[i])
				}
				if !live && errors[i] != api.ErrFree {
					t.Errorf("%s at %d makes %d live", s.name, at, i)
				}
			}
		}
	}
}

// model is a memory in the plainest words of the chapter.
type model struct {
	live    [6]bool
	numbers [6]int64
	steps   int
}

func (w *model) turn(at, n int, live bool) api.Errno {
	if n < 0 || at < 0 || at+n > len(w.live) {
		return api.ErrRange
	}
	for i := at; i < at+n; i++ {
		if w.live[i] == live {
			return api.ErrState
		}
	}
	for i := at; i < at+n; i++ {
		w.live[i], w.numbers[i] = live, 0
	}
	return api.OK
}

func (w *model) step(at int) api.Errno {
	if at < 0 || at >= len(w.live) {
		return api.ErrRange
	}
	if !w.live[at] {
		return api.ErrFree
	}
	w.steps++
	return api.OK
}

// call does one call, drawn from r, of both, and holds the answers against each other.
func (w *model) call(t *testing.T, m *mem.Mem, r *rand.Rand) {
	at, n := r.Intn(8)-1, int64(r.Intn(3)-1)
	switch r.Intn(6) {
	case 0:
		rows := r.Intn(5) - 1
		if got, want := m.Live(at, rows), w.turn(at, rows, true); got != want {
			t.Fatalf("Live(%d, %d): %d; want %d", at, rows, got, want)
		}
	case 1:
		rows := r.Intn(4) - 1
		if got, want := m.Free(at, rows), w.turn(at, rows, false); got != want {
			t.Fatalf("Free(%d, %d): %d; want %d", at, rows, got, want)
		}
	case 2:
		got, e := m.Load(at)
		if want := w.step(at); e != want || want == api.OK && got != w.numbers[at] {
			t.Fatalf("Load(%d): %d, %d", at, got, e)
		}
	case 3:
		e, want := m.Store(at, n), w.step(at)
		if want == api.OK {
			w.numbers[at] = n
		}
		if e != want {
			t.Fatalf("Store(%d, %d): %d", at, n, e)
		}
	case 4:
		was := int64(r.Intn(3) - 1)
		got, e := m.Swap(at, was, n)
		want, is := w.step(at), false
		if want == api.OK && w.numbers[at] == was {
			w.numbers[at], is = n, true
		}
		if e != want || got != is {
			t.Fatalf("Swap(%d, %d, %d): %v, %d", at, was, n, got, e)
		}
	case 5:
		got, e := m.Add(at, n)
		want := w.step(at)
		if want == api.OK {
			w.numbers[at] += n
		}
		if e != want || want == api.OK && got != w.numbers[at] {
			t.Fatalf("Add(%d, %d): %d, %d", at, n, got, e)
		}
	}
}

func TestManyCallsAgainstTheModel(t *testing.T) { // P1.1, P1.2, P1.3
	for seed := range int64(50) {
		r := rand.New(rand.NewSource(seed))
		m, _ := mem.New(6)
		w := &model{}
		for range 400 {
			w.call(t, m, r)
			if m.Steps() != w.steps {
				t.Fatalf("%d steps; want %d", m.Steps(), w.steps)
			}
			numbers, errors := look(m)
			for at := range numbers {
				if want := w.step(at); numbers[at] != w.numbers[at] || errors[at] != want {
					t.Fatalf("the word %d is %d, %d; want %d, %d", at, numbers[at], errors[at], w.numbers[at], want)
				}
			}
		}
	}
}
