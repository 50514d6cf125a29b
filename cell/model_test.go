package cell_test

import (
	"math/rand"
	"slices"
	"testing"

	"haymow/api"
	"haymow/cell"
	"haymow/mem"
)

// model is an operation by the chapter's words: the number of its next move,
// and what it has loaded.
type model struct {
	fills    bool
	base     int
	x, y     int64 // who waits; or the value and why
	link     int
	next     int
	h, value int64
	end      cell.End
	e        api.Errno
}

func (o *model) move(m *mem.Mem) bool {
	if o.next == 0 {
		return true
	}
	if o.fills {
		o.fill(m)
	} else {
		o.wait(m)
	}
	if o.e != api.OK {
		o.next, o.end = 0, cell.End{}
	}
	return o.next == 0
}

func (o *model) wait(m *mem.Mem) {
	switch o.next {
	case 1:
		o.h, o.e = m.Load(o.base)
		if o.next = 2; o.h == -1 {
			o.next = 4
		}
	case 2:
		o.e, o.next = m.Store(o.link, o.h), 3
	case 3:
		was, e := m.Swap(o.base, o.h, o.x)
		if o.e, o.next = e, 1; was {
			o.next, o.end.Waits = 0, true
		}
	case 4:
		o.value, o.e = m.Load(o.base + 1)
		o.next = 5
	case 5:
		o.end.Value = o.value
		o.end.Why, o.e = m.Load(o.base + 2)
		o.next = 0
	}
}

func (o *model) fill(m *mem.Mem) {
	switch o.next {
	case 1:
		o.e, o.next = m.Store(o.base+1, o.x), 2
	case 2:
		o.e, o.next = m.Store(o.base+2, o.y), 3
	case 3:
		o.h, o.e = m.Load(o.base)
		o.next = 4
	case 4:
		was, e := m.Swap(o.base, o.h, -1)
		if o.e, o.next = e, 3; was {
			o.next, o.end.First = 0, o.h
		}
	}
}

func (o *model) ended() (cell.End, api.Errno) {
	if o.next != 0 {
		return cell.End{}, api.ErrState
	}
	return o.end, o.e
}

// drawn are an operation and its model, of one of some cells that lie upon each
// other, with any link.
func drawn(r *rand.Rand, words int) (*cell.Op, *model) {
	o := &model{fills: r.Intn(4) == 0, base: r.Intn(4) - 1 + r.Intn(2)*3, x: int64(1 + r.Intn(5)), y: int64(r.Intn(3)), link: words - 1 - r.Intn(5), next: 1}
	if r.Intn(8) == 0 {
		o.link = r.Intn(words+2) - 1
	}
	c := cell.At(o.base)
	if o.fills {
		return c.Fill(o.x, o.y), o
	}
	return c.Wait(o.x, o.link), o
}

func TestAgainstTheModel(t *testing.T) { // P13.1, R1, R5: whatever cells and links are, and however many fill
	const words = 12
	ends := map[api.Errno]int{}
	for seed := range int64(3000) {
		r := rand.New(rand.NewSource(seed))
		m, n := live(t, words), live(t, words)
		if r.Intn(3) == 0 {
			free := r.Intn(words)
			m.Free(free, 1)
			n.Free(free, 1)
		}
		ops, models := make([]*cell.Op, 6), make([]*model, 6)
		for i := range ops {
			ops[i], models[i] = drawn(r, words)
		}
		for step := range 60 {
			i := r.Intn(len(ops))
			got, want := ops[i].Move(m), models[i].move(n)
			end, e := ops[i].End()
			if meant, errno := models[i].ended(); got != want || end != meant || e != errno || m.Steps() != n.Steps() {
				t.Fatalf("%d, %d: %t, %v, %d; want %t, %v, %d", seed, step, got, end, e, want, meant, errno)
			}
			if !slices.Equal(all(m), all(n)) {
				t.Fatalf("%d, %d: %v; want %v", seed, step, all(m), all(n))
			}
			if got {
				ends[e]++
				ops[i], models[i] = drawn(r, words)
			}
		}
	}
	for _, e := range []api.Errno{api.OK, api.ErrRange, api.ErrFree} {
		if ends[e] < 500 {
			t.Errorf("only %d end with %d", ends[e], e)
		}
	}
}
