package pool_test

import (
	"math/rand"
	"slices"
	"testing"

	"haymow/api"
	"haymow/mem"
	"haymow/pool"
)

// second is a pool in the plainest words of the chapter: rows have their first
// block at the front, each block has a row of its own numbers.
type second struct {
	workers int
	free    map[[2]int][]int // by worker and class
	back    map[int][]int
	taken   map[int]int
	where   map[int][4]int
}

func newSecond(base int, s pool.Shape) *second {
	x := &second{workers: s.Workers, free: map[[2]int][]int{}, back: map[int][]int{}, taken: map[int]int{}, where: map[int][4]int{}}
	block := 0
	for c := range 3 {
		for w := range s.Workers {
			for range s.Many[c] {
				block++
				x.where[block] = [4]int{base, s.Sizes[c], w, c}
				x.free[[2]int{w, c}] = append(x.free[[2]int{w, c}], block)
				base += s.Sizes[c]
			}
		}
	}
	return x
}

func (x *second) take(w, class int) (int, api.Errno) {
	if w < 0 || w >= x.workers || class < 0 || class > 2 {
		return 0, api.ErrArg
	}
	row := x.free[[2]int{w, class}]
	if len(row) == 0 {
		return 0, api.ErrEmpty
	}
	x.free[[2]int{w, class}] = row[1:]
	x.taken[row[0]] = 1
	return row[0], api.OK
}

func (x *second) home(block int) {
	at := x.where[block]
	row := [2]int{at[2], at[3]}
	x.free[row] = append([]int{block}, x.free[row]...)
}

func (x *second) give(w, block int) api.Errno {
	at, ok := x.where[block]
	switch {
	case w < 0 || w >= x.workers:
		return api.ErrArg
	case !ok:
		return api.ErrNone
	case x.taken[block] == 0:
		return api.ErrState
	}
	delete(x.taken, block)
	if w == at[2] {
		x.home(block)
	} else {
		x.back[at[2]] = append(x.back[at[2]], block)
	}
	return api.OK
}

func (x *second) drain(w int) int {
	row := x.back[w]
	delete(x.back, w)
	for _, block := range row {
		x.home(block)
	}
	return len(row)
}

func (x *second) isHome() bool {
	given := 0
	for _, row := range x.back {
		given += len(row)
	}
	return given == 0 && len(x.taken) == 0
}

// mark is what stands in a word of a block since it was taken the so manieth
// time.
func mark(block, i, time int) int64 { return int64(block*1000000 + i*10000 + time + 1) }

// pair is a pool, and a second one to hold it against.
type pair struct {
	m     *mem.Mem
	p     *pool.Pool
	x     *second
	times map[int]int // when a block was taken last
	calls int
}

func newPair(t *testing.T, base int, s pool.Shape) *pair {
	m, p := made(t, base, s)
	return &pair{m: m, p: p, x: newSecond(base, s), times: map[int]int{}}
}

func (b *pair) take(t *testing.T, w, class int) {
	t.Helper()
	b.calls++
	block, e := b.p.Take(w, class)
	if wantBlock, want := b.x.take(w, class); block != wantBlock || e != want {
		t.Fatalf("Take(%d, %d): %d, %d; want %d, %d", w, class, block, e, wantBlock, want)
	}
	if e != api.OK {
		return
	}
	b.times[block] = b.calls
	at, size, _, _, _ := b.p.Where(block)
	for i := range size {
		if n, e := b.m.Load(at + i); n != 0 || e != api.OK {
			t.Fatalf("the word %d of the block %d is %d, %d", i, block, n, e)
		}
		b.m.Store(at+i, mark(block, i, b.calls))
	}
}

func (b *pair) give(t *testing.T, w, block int) {
	t.Helper()
	if e, want := b.p.Give(w, block), b.x.give(w, block); e != want {
		t.Fatalf("Give(%d, %d): %d; want %d", w, block, e, want)
	}
}

func (b *pair) drain(t *testing.T, w int) {
	t.Helper()
	if many, want := b.p.Drain(w), b.x.drain(w); many != want {
		t.Fatalf("Drain(%d): %d; want %d", w, many, want)
	}
}

// look asks for all that can be seen: also that each taken block's words are
// as its taker left them, and all other words are free.
func (b *pair) look(t *testing.T) {
	t.Helper()
	sum := len(b.x.taken)
	for w := range b.x.workers {
		for c := range 3 {
			if got, want := b.p.Free(w, c), len(b.x.free[[2]int{w, c}]); got != want {
				t.Fatalf("Free(%d, %d): %d; want %d", w, c, got, want)
			}
			sum += b.p.Free(w, c)
		}
		if got, want := b.p.Remote(w), len(b.x.back[w]); got != want {
			t.Fatalf("Remote(%d): %d; want %d", w, got, want)
		}
		sum += b.p.Remote(w)
	}
	if sum != len(b.x.where) {
		t.Fatalf("of %d blocks there are %d", len(b.x.where), sum)
	}
	if got, want := b.p.Home(), b.x.isHome(); got != want {
		t.Fatalf("Home: %v; want %v", got, want)
	}
	want := make([]int64, b.m.Words())
	for block := range b.x.taken {
		at := b.x.where[block]
		for i := range at[1] {
			want[at[0]+i] = mark(block, i, b.times[block])
		}
	}
	got := make([]int64, b.m.Words())
	for at := range got {
		n, e := b.m.Load(at)
		if (e == api.OK) != (want[at] != 0) {
			t.Fatalf("the word %d: %d", at, e)
		}
		got[at] = n
	}
	if !slices.Equal(got, want) {
		t.Fatalf("the words are %v; want %v", got, want)
	}
}

// allHome gives back what is taken, and drains; then each row is gone through
// to its end, so that no block is there twice, and none is lost.
func (b *pair) allHome(t *testing.T) {
	t.Helper()
	for block := 1; block <= len(b.x.where); block++ {
		if b.x.taken[block] != 0 {
			b.give(t, block%b.x.workers, block)
		}
	}
	for w := range b.x.workers {
		b.drain(t, w)
	}
	b.look(t)
	seen := map[int]int{}
	for w := range b.x.workers {
		for c := range 3 {
			for range b.p.Free(w, c) {
				block, e := b.p.Take(w, c)
				_, _, owner, class, ok := b.p.Where(block)
				if e != api.OK || !ok || owner != w || class != c || seen[block] != 0 {
					t.Fatalf("the worker %d takes %d of class %d, %d, behind %d times", w, block, c, e, seen[block])
				}
				seen[block]++
			}
		}
	}
	if len(seen) != len(b.x.where) {
		t.Fatalf("of %d blocks %d came home", len(b.x.where), len(seen))
	}
}

func (b *pair) call(t *testing.T, r *rand.Rand) {
	t.Helper()
	w := r.Intn(b.x.workers)
	if r.Intn(20) == 0 {
		w = r.Intn(b.x.workers+4) - 2
	}
	switch r.Intn(9) {
	case 0, 1, 2, 3:
		b.take(t, w, r.Intn(13)%4-r.Intn(13)/12)
	case 4, 5, 6, 7:
		b.give(t, w, r.Intn(len(b.x.where)+3)-1)
	case 8:
		b.drain(t, w)
	}
}

func TestManyCallsAgainstTheSecond(t *testing.T) { // P10.2, P10.3, P10.4
	for seed := range int64(60) {
		r := rand.New(rand.NewSource(seed))
		s := pool.Shape{Workers: 1 + r.Intn(5)}
		for c := range 3 {
			s.Sizes[c], s.Many[c] = 1+r.Intn(4), r.Intn(6)
		}
		b := newPair(t, r.Intn(3), s)
		for range 300 {
			b.call(t, r)
			b.look(t)
		}
		b.allHome(t)
	}
}

// TestAllShortRows does each row of some calls on a pool of two workers with
// two blocks each.
func TestAllShortRows(t *testing.T) { // P10.2, P10.4
	s := pool.Shape{Workers: 2, Sizes: [3]int{2, 1, 1}, Many: [3]int{2, 0, 0}}
	var calls []func(b *pair)
	for w := range 2 {
		calls = append(calls,
			func(b *pair) { b.take(t, w, 0) },
			func(b *pair) { b.give(t, w, 1) },
			func(b *pair) { b.give(t, w, 2) },
			func(b *pair) { b.give(t, w, 3) },
			func(b *pair) { b.drain(t, w) })
	}
	const long = 5
	rows := 1
	for range long {
		rows *= len(calls)
	}
	for row := range rows {
		b := newPair(t, 0, s)
		for range long {
			calls[row%len(calls)](b)
			row /= len(calls)
		}
		b.look(t)
		b.allHome(t)
	}
}
