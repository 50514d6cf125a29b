package pool_test

import (
	"math"
	"testing"

	"haymow/api"
	"haymow/mem"
	"haymow/pool"
)

// small has the blocks 1 to 4 of 2 words (1, 2 worker 0's), 5 and 6 of 1 word,
// and 7 to 12 of 3 words (7 to 9 worker 0's): 28 words.
var small = pool.Shape{Workers: 2, Sizes: [3]int{2, 1, 3}, Many: [3]int{2, 1, 3}}

// made is a pool at base, in a memory with a word to spare behind it.
func made(t *testing.T, base int, s pool.Shape) (*mem.Mem, *pool.Pool) {
	t.Helper()
	m, e := mem.New(base + pool.Words(s) + 1)
	if e != api.OK {
		t.Fatalf("a memory: %d", e)
	}
	p, e := pool.New(m, base, s)
	if p == nil || e != api.OK {
		t.Fatalf("New at %d of %v: nil is %v, %d", base, s, p == nil, e)
	}
	return m, p
}

func takes(t *testing.T, p *pool.Pool, w, class, block int, e api.Errno) {
	t.Helper()
	if gotBlock, gotE := p.Take(w, class); gotBlock != block || gotE != e {
		t.Errorf("Take(%d, %d): %d, %d; want %d, %d", w, class, gotBlock, gotE, block, e)
	}
}

func gives(t *testing.T, p *pool.Pool, w, block int, e api.Errno) {
	t.Helper()
	if got := p.Give(w, block); got != e {
		t.Errorf("Give(%d, %d): %d; want %d", w, block, got, e)
	}
}

func drains(t *testing.T, p *pool.Pool, w, many int) {
	t.Helper()
	if got := p.Drain(w); got != many {
		t.Errorf("Drain(%d): %d; want %d", w, got, many)
	}
}

// holds asks how many are in worker w's rows of the classes, and how many
// others gave back to it.
func holds(t *testing.T, p *pool.Pool, w int, free [3]int, remote int) {
	t.Helper()
	if got := [3]int{p.Free(w, 0), p.Free(w, 1), p.Free(w, 2)}; got != free || p.Remote(w) != remote {
		t.Errorf("worker %d has %v and %d; want %v and %d", w, got, p.Remote(w), free, remote)
	}
}

// live tells which words are, one figure each.
func live(m *mem.Mem) string {
	var b []byte
	for at := range m.Words() {
		if n, e := m.Load(at); e == api.ErrFree {
			b = append(b, '-')
		} else {
			b = append(b, byte('0'+n))
		}
	}
	return string(b)
}

func lives(t *testing.T, m *mem.Mem, want string) {
	t.Helper()
	if got := live(m); got != want {
		t.Errorf("the words are %s; want %s", got, want)
	}
}

func TestExample(t *testing.T) { // example 1
	_, p := made(t, 0, pool.Shape{Workers: 2, Sizes: [3]int{1, 1, 1}, Many: [3]int{2, 0, 0}})
	takes(t, p, 0, 0, 1, api.OK)
	takes(t, p, 0, 0, 2, api.OK)
	gives(t, p, 1, 1, api.OK)
	takes(t, p, 0, 0, 0, api.ErrEmpty)
	drains(t, p, 0, 1)
	takes(t, p, 0, 0, 1, api.OK)
}

// wrong are the shapes that may not be, each by one number.
func wrong() (l []pool.Shape) {
	for _, n := range []int{0, -1, 65, math.MinInt, math.MaxInt} {
		s := small
		s.Workers = n
		l = append(l, s)
		for c := range 3 {
			s := small
			s.Sizes[c] = n
			l = append(l, s)
			s.Many[c] = 0 // a size counts also where there are none of it
			l = append(l, s)
		}
	}
	for _, n := range []int{-1, -1000, 1001, math.MinInt, math.MaxInt} {
		for c := range 3 {
			s := small
			s.Many[c] = n
			l = append(l, s)
		}
	}
	return append(l, pool.Shape{})
}

func TestWords(t *testing.T) { // P10.1
	for _, c := range []struct {
		s    pool.Shape
		want int
	}{
		{small, 28},
		{pool.Shape{Workers: 1, Sizes: [3]int{1, 1, 1}}, 0},
		{pool.Shape{Workers: 64, Sizes: [3]int{64, 64, 64}}, 0},
		{pool.Shape{Workers: 1, Sizes: [3]int{1, 1, 1}, Many: [3]int{0, 1, 0}}, 1},
		{pool.Shape{Workers: 1, Sizes: [3]int{1, 1, 1}, Many: [3]int{1000, 1000, 1000}}, 3000},
		{pool.Shape{Workers: 64, Sizes: [3]int{1, 64, 64}, Many: [3]int{1000, 0, 0}}, 64000},
		{pool.Shape{Workers: 1, Sizes: [3]int{64, 1, 1}, Many: [3]int{1000, 1000, 536}}, api.MaxWords},
		{pool.Shape{Workers: 1, Sizes: [3]int{64, 1, 1}, Many: [3]int{1000, 1000, 537}}, 0},
		{pool.Shape{Workers: 64, Sizes: [3]int{64, 1, 1}, Many: [3]int{16, 0, 0}}, api.MaxWords},
		{pool.Shape{Workers: 64, Sizes: [3]int{64, 1, 1}, Many: [3]int{16, 0, 1}}, 0},
		{pool.Shape{Workers: 64, Sizes: [3]int{64, 64, 64}, Many: [3]int{1000, 1000, 1000}}, 0},
	} {
		if got := pool.Words(c.s); got != c.want {
			t.Errorf("Words(%v): %d; want %d", c.s, got, c.want)
		}
	}
	for _, s := range wrong() {
		if got := pool.Words(s); got != 0 {
			t.Errorf("Words(%v): %d; want 0", s, got)
		}
	}
}

func refused(t *testing.T, m *mem.Mem, base int, s pool.Shape, want api.Errno) {
	t.Helper()
	if p, e := pool.New(m, base, s); p != nil || e != want {
		t.Errorf("New at %d of %v: nil is %v, %d; want nil, %d", base, s, p == nil, e, want)
	}
}

func TestNewRefuses(t *testing.T) { // P10.1, R2
	m, _ := mem.New(30)
	for _, s := range wrong() {
		for _, base := range []int{0, -1, 31} {
			refused(t, m, base, s, api.ErrArg)
		}
		refused(t, nil, 0, s, api.ErrArg)
	}
	long := pool.Shape{Workers: 64, Sizes: [3]int{64, 1, 1}, Many: [3]int{16, 0, 1}}
	for _, base := range []int{0, -1, 31} {
		refused(t, m, base, long, api.ErrLong)
		refused(t, nil, base, long, api.ErrLong)
	}
	long.Workers = 65 // more words still, but it may not be
	refused(t, m, 0, long, api.ErrArg)
	for _, base := range []int{-1, 3, 4, 30, 31, math.MinInt, math.MaxInt} {
		refused(t, m, base, small, api.ErrRange)
	}
	for _, base := range []int{-1, 0, 1} {
		refused(t, nil, base, small, api.ErrRange)
	}
	few, _ := mem.New(27)
	for _, base := range []int{-1, 0, 1} {
		refused(t, few, base, small, api.ErrRange)
	}
	lives(t, m, "------------------------------")
}

func TestNewWhereThereAreNoWords(t *testing.T) { // P10.1
	none := pool.Shape{Workers: 3, Sizes: [3]int{1, 2, 3}}
	for _, words := range []int{0, 5} {
		m, _ := mem.New(words)
		for _, base := range []int{-1, words + 1, math.MinInt, math.MaxInt} {
			refused(t, m, base, none, api.ErrRange)
		}
		for base := 0; base <= words; base++ {
			p, e := pool.New(m, base, none)
			if p == nil || e != api.OK || !p.Home() {
				t.Errorf("New at %d of no words: nil is %v, %d", base, p == nil, e)
				continue
			}
			takes(t, p, 2, 2, 0, api.ErrEmpty)
			gives(t, p, 2, 1, api.ErrNone)
			drains(t, p, 2, 0)
		}
	}
	refused(t, nil, 0, none, api.ErrRange)
}

func TestNewAtTheEdges(t *testing.T) { // P10.1
	m, _ := mem.New(30)
	for base := range 3 {
		p, e := pool.New(m, base, small)
		if p == nil || e != api.OK || !p.Home() {
			t.Errorf("New at %d: nil is %v, %d", base, p == nil, e)
			continue
		}
		holds(t, p, 0, [3]int{2, 1, 3}, 0)
		holds(t, p, 1, [3]int{2, 1, 3}, 0)
		lives(t, m, "------------------------------")
	}
	if m.Steps() != 0 {
		t.Errorf("%d steps", m.Steps())
	}

	most := pool.Shape{Workers: 64, Sizes: [3]int{1, 1, 1}, Many: [3]int{1000, 24, 0}}
	whole, _ := mem.New(api.MaxWords)
	p, e := pool.New(whole, 0, most)
	if e != api.OK {
		t.Fatalf("as many words as may be: %d", e)
	}
	takes(t, p, 63, 1, 65513, api.OK)
	for range 23 {
		p.Take(63, 1)
	}
	takes(t, p, 63, 1, 0, api.ErrEmpty)
	if n, e := whole.Load(api.MaxWords - 1); n != 0 || e != api.OK {
		t.Errorf("the last word: %d, %d", n, e)
	}
}

func TestWhere(t *testing.T) { // P10.3
	_, p := made(t, 5, small)
	for i, want := range [][4]int{
		{5, 2, 0, 0}, {7, 2, 0, 0}, {9, 2, 1, 0}, {11, 2, 1, 0},
		{13, 1, 0, 1}, {14, 1, 1, 1},
		{15, 3, 0, 2}, {18, 3, 0, 2}, {21, 3, 0, 2}, {24, 3, 1, 2}, {27, 3, 1, 2}, {30, 3, 1, 2},
	} {
		at, size, owner, class, ok := p.Where(i + 1)
		if got := [4]int{at, size, owner, class}; got != want || !ok {
			t.Errorf("Where(%d): %v, %v; want %v", i+1, got, ok, want)
		}
	}
	for _, block := range []int{0, -1, 13, 14, 1000, math.MinInt, math.MaxInt} {
		at, size, owner, class, ok := p.Where(block)
		if at != 0 || size != 0 || owner != 0 || class != 0 || ok {
			t.Errorf("Where(%d): %d, %d, %d, %d, %v", block, at, size, owner, class, ok)
		}
	}
}

func TestWhereOfClassesWithoutBlocks(t *testing.T) { // P10.3
	for empty := range 3 {
		s := small
		s.Many[empty] = 0
		_, p := made(t, 1, s)
		block, stands := 1, 1
		for c := range 3 {
			for w := range 2 {
				for range s.Many[c] {
					at, size, owner, class, ok := p.Where(block)
					if at != stands || size != s.Sizes[c] || owner != w || class != c || !ok {
						t.Errorf("of %v Where(%d): %d, %d, %d, %d, %v", s, block, at, size, owner, class, ok)
					}
					block++
					stands += s.Sizes[c]
				}
			}
		}
		if _, _, _, _, ok := p.Where(block); ok {
			t.Errorf("of %v there is a block %d", s, block)
		}
		takes(t, p, 0, empty, 0, api.ErrEmpty)
	}
}

func TestTakeRises(t *testing.T) { // P10.2
	_, p := made(t, 0, small)
	for _, c := range []struct {
		w, class int
		blocks   []int
	}{{1, 2, []int{10, 11, 12}}, {0, 0, []int{1, 2}}, {1, 1, []int{6}}, {0, 2, []int{7, 8, 9}}, {0, 1, []int{5}}, {1, 0, []int{3, 4}}} {
		for i, block := range c.blocks {
			if p.Free(c.w, c.class) != len(c.blocks)-i {
				t.Errorf("Free(%d, %d): %d; want %d", c.w, c.class, p.Free(c.w, c.class), len(c.blocks)-i)
			}
			takes(t, p, c.w, c.class, block, api.OK)
		}
		takes(t, p, c.w, c.class, 0, api.ErrEmpty)
		takes(t, p, c.w, c.class, 0, api.ErrEmpty)
	}
}

func TestTakeRefuses(t *testing.T) { // P10.2
	m, p := made(t, 0, small)
	for _, c := range []struct{ w, class int }{
		{-1, 0}, {2, 0}, {64, 0}, {math.MinInt, 0}, {math.MaxInt, 0},
		{0, -1}, {0, 3}, {1, math.MinInt}, {1, math.MaxInt}, {-1, -1}, {2, 3},
	} {
		takes(t, p, c.w, c.class, 0, api.ErrArg)
		if p.Free(c.w, c.class) != 0 {
			t.Errorf("Free(%d, %d): %d", c.w, c.class, p.Free(c.w, c.class))
		}
	}
	lives(t, m, "-----------------------------")
	if !p.Home() {
		t.Error("a block has gone")
	}
}

func TestTakenWordsAreLiveAndZero(t *testing.T) { // P10.2
	m, p := made(t, 2, pool.Shape{Workers: 1, Sizes: [3]int{3, 1, 2}, Many: [3]int{2, 1, 1}})
	takes(t, p, 0, 0, 1, api.OK)
	lives(t, m, "--000-------")
	for at := 2; at < 5; at++ {
		m.Store(at, 7)
	}
	takes(t, p, 0, 2, 4, api.OK)
	lives(t, m, "--777----00-")
	gives(t, p, 0, 1, api.OK)
	lives(t, m, "---------00-")
	takes(t, p, 0, 0, 1, api.OK)
	lives(t, m, "--000----00-")
	takes(t, p, 0, 0, 2, api.OK)
	takes(t, p, 0, 1, 3, api.OK)
	lives(t, m, "--000000000-")
	if p.Home() {
		t.Error("all are taken, and at home")
	}
	for block := 1; block <= 4; block++ {
		gives(t, p, 0, block, api.OK)
	}
	lives(t, m, "------------")
}

func TestTakeOfWordsThatAreLive(t *testing.T) { // P10.2
	for at := range 3 {
		m, p := made(t, 0, pool.Shape{Workers: 1, Sizes: [3]int{3, 1, 1}, Many: [3]int{2, 0, 0}})
		m.Live(at, 1)
		m.Store(at, 9)
		before := live(m)
		for range 2 {
			takes(t, p, 0, 0, 0, api.ErrState)
		}
		lives(t, m, before)
		gives(t, p, 0, 1, api.ErrState)
		if p.Free(0, 0) != 2 || !p.Home() {
			t.Errorf("a block that can't be taken has gone: %d", p.Free(0, 0))
		}
		m.Free(at, 1)
		takes(t, p, 0, 0, 1, api.OK)
		takes(t, p, 0, 0, 2, api.OK)
	}
}

func TestGiveRefuses(t *testing.T) { // P10.2, R2
	m, p := made(t, 0, small)
	takes(t, p, 0, 0, 1, api.OK)
	before := live(m)
	for _, w := range []int{-1, 2, math.MinInt, math.MaxInt} {
		for _, block := range []int{1, 2, 0, 13} {
			gives(t, p, w, block, api.ErrArg)
		}
	}
	for w := range 2 {
		for _, block := range []int{0, -1, 13, math.MinInt, math.MaxInt} {
			gives(t, p, w, block, api.ErrNone)
		}
		for block := 2; block <= 12; block++ {
			gives(t, p, w, block, api.ErrState)
		}
	}
	lives(t, m, before)
	holds(t, p, 0, [3]int{1, 1, 3}, 0)
	holds(t, p, 1, [3]int{2, 1, 3}, 0)
	gives(t, p, 1, 1, api.OK)
	for w := range 2 {
		gives(t, p, w, 1, api.ErrState) // given back, but not home
	}
	holds(t, p, 0, [3]int{1, 1, 3}, 1)
	drains(t, p, 0, 1)
	gives(t, p, 0, 1, api.ErrState)
	holds(t, p, 0, [3]int{2, 1, 3}, 0)
}

func TestOwnBlocksComeFirst(t *testing.T) { // P10.2
	_, p := made(t, 0, small)
	for block := 7; block <= 9; block++ {
		takes(t, p, 0, 2, block, api.OK)
	}
	for _, block := range []int{8, 7, 9} {
		gives(t, p, 0, block, api.OK)
	}
	holds(t, p, 0, [3]int{2, 1, 3}, 0)
	for _, block := range []int{9, 7, 8} {
		takes(t, p, 0, 2, block, api.OK)
	}
	gives(t, p, 0, 7, api.OK)
	takes(t, p, 0, 2, 7, api.OK)
}

func TestDrainInOrder(t *testing.T) { // P10.2
	_, p := made(t, 0, small)
	for block := 10; block <= 12; block++ {
		takes(t, p, 1, 2, block, api.OK)
	}
	takes(t, p, 1, 0, 3, api.OK)
	takes(t, p, 1, 1, 6, api.OK)
	takes(t, p, 0, 1, 5, api.OK)
	gives(t, p, 1, 5, api.OK)
	gives(t, p, 1, 12, api.OK)
	for _, block := range []int{10, 3, 11, 6} {
		gives(t, p, 0, block, api.OK)
	}
	holds(t, p, 0, [3]int{2, 0, 3}, 1)
	holds(t, p, 1, [3]int{1, 0, 1}, 4)
	drains(t, p, 1, 4)
	holds(t, p, 0, [3]int{2, 0, 3}, 1)
	holds(t, p, 1, [3]int{2, 1, 3}, 0)
	drains(t, p, 1, 0)
	for _, block := range []int{11, 10, 12} {
		takes(t, p, 1, 2, block, api.OK)
	}
	takes(t, p, 1, 0, 3, api.OK)
	takes(t, p, 1, 0, 4, api.OK)
	takes(t, p, 1, 1, 6, api.OK)
	for _, w := range []int{-1, 2, math.MinInt, math.MaxInt} {
		drains(t, p, w, 0)
		if p.Remote(w) != 0 {
			t.Errorf("Remote(%d): %d", w, p.Remote(w))
		}
	}
	drains(t, p, 0, 1)
}

func TestHome(t *testing.T) { // P10.3
	for block := 1; block <= 12; block++ {
		_, p := made(t, 0, small)
		_, _, owner, class, _ := p.Where(block)
		var own []int
		for range p.Free(owner, class) {
			b, _ := p.Take(owner, class)
			own = append(own, b)
		}
		for _, b := range own {
			if b != block {
				gives(t, p, owner, b, api.OK)
			}
		}
		if p.Home() {
			t.Errorf("the block %d is taken, and all are at home", block)
		}
		gives(t, p, 1-owner, block, api.OK)
		if p.Home() {
			t.Errorf("the block %d was given back by another one, and all are at home", block)
		}
		drains(t, p, 1-owner, 0)
		if p.Home() {
			t.Errorf("the other one drains, and the block %d is at home", block)
		}
		drains(t, p, owner, 1)
		if !p.Home() {
			t.Errorf("the block %d is at home, but not all are", block)
		}
	}
}

func TestGiveOfWordsThatAreFree(t *testing.T) { // P10.2
	for at := range 3 {
		for n := 1; at+n <= 3; n++ {
			m, p := made(t, 0, pool.Shape{Workers: 2, Sizes: [3]int{3, 1, 1}, Many: [3]int{1, 0, 0}})
			takes(t, p, 0, 0, 1, api.OK)
			takes(t, p, 1, 0, 2, api.OK)
			m.Free(at, n)
			gives(t, p, 0, 1, api.OK)
			lives(t, m, "---000-")
			takes(t, p, 0, 0, 1, api.OK)
			lives(t, m, "000000-")
		}
	}
}

func TestPoolsAreApart(t *testing.T) { // R5, P10.4
	m, _ := mem.New(60)
	a, _ := pool.New(m, 0, small)
	b, _ := pool.New(m, 28, small)
	over, _ := pool.New(m, 1, small)
	takes(t, a, 0, 0, 1, api.OK)
	takes(t, b, 0, 0, 1, api.OK)
	takes(t, b, 0, 0, 2, api.OK)
	gives(t, a, 1, 2, api.ErrState)
	holds(t, a, 0, [3]int{1, 1, 3}, 0)
	m.Store(0, 4)
	m.Store(1, 5)
	takes(t, over, 0, 0, 0, api.ErrState) // a's block 1 is not taken a second time
	lives(t, m, "45--------------------------0000----------------------------")
	gives(t, over, 0, 1, api.ErrState)
	if !over.Home() || a.Home() || b.Home() {
		t.Error("Home")
	}
}

func TestNil(t *testing.T) { // P10.3
	var p *pool.Pool
	for _, n := range []int{-1, 0, 1, math.MaxInt} {
		for _, c := range []int{-1, 0, 1, 3} {
			takes(t, p, n, c, 0, api.ErrArg)
			gives(t, p, n, c, api.ErrArg)
			if p.Free(n, c) != 0 {
				t.Errorf("Free(%d, %d) of nil", n, c)
			}
		}
		drains(t, p, n, 0)
		at, size, owner, class, ok := p.Where(n)
		if at != 0 || size != 0 || owner != 0 || class != 0 || ok || p.Remote(n) != 0 {
			t.Errorf("Where(%d), Remote(%d) of nil", n, n)
		}
	}
	if p.Home() {
		t.Error("Home of nil")
	}
}

func TestPoolThatNewDidNotMake(t *testing.T) { // R1
	p := &pool.Pool{}
	takes(t, p, 0, 0, 0, api.ErrArg)
	gives(t, p, 0, 1, api.ErrArg)
	drains(t, p, 0, 0)
	if _, _, _, _, ok := p.Where(1); ok || p.Free(0, 0) != 0 || p.Remote(0) != 0 {
		t.Error("it has blocks")
	}
	p.Home()
}
