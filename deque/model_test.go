package deque_test

import (
	"math/rand"
	"slices"
	"testing"

	"haymow/api"
	"haymow/deque"
	"haymow/mem"
)

// A second operation goes through the chapter's table by the numbers of its
// moves, in words of its own, with tag and place apart.
type second struct {
	kind, base, room int
	what             string
	at               int // the number of its next move; 0 once it has ended
	x                int64
	b, tag, top      int64
	h, t             int64
	e                api.Errno
}

func (s *second) ends(e api.Errno) {
	s.at, s.e = 0, e
	if e != api.OK || s.what == "push" {
		s.x = 0
	}
}

func (s *second) move(w []int64) {
	E, T, slots := &w[s.base], &w[s.base+1], w[s.base+2:s.base+2+s.room]
	at := s.at
	s.at++
	switch s.kind {
	case 1:
		s.move1(at, E, T, slots)
	case 2:
		s.move2(at, T, slots)
	case 3:
		s.move3(at, E, T, slots)
	}
}

func both(tag, place int64) int64 { return tag*65536 + place }

func (s *second) loadT(T *int64) { s.tag, s.top = *T/65536, *T%65536 }

func (s *second) exchange(T *int64, to int64) {
	if *T != both(s.tag, s.top) {
		s.ends(api.ErrAbort)
		return
	}
	*T = to
	s.ends(api.OK)
}

func (s *second) move1(at int, E, T *int64, slots []int64) {
	switch {
	case s.what == "push" && at == 1:
		if s.b = *E; s.b == int64(s.room) {
			s.ends(api.ErrFull)
		}
	case s.what == "push" && at == 2:
		slots[s.b] = s.x
	case s.what == "push" && at == 3:
		*E = s.b + 1
		s.ends(api.OK)
	case s.what == "pop" && at == 1:
		if s.b = *E; s.b == 0 {
			s.ends(api.ErrEmpty)
		}
	case s.what == "pop" && at == 2:
		*E = s.b - 1
	case s.what == "pop" && at == 3:
		s.x = slots[s.b-1]
	case s.what == "pop" && at == 4:
		if s.loadT(T); s.b-1 > s.top {
			s.ends(api.OK)
		}
	case s.what == "pop" && at == 5:
		if *E = 0; s.b-1 != s.top {
			s.at = 7
		}
	case s.what == "pop" && at == 6:
		if *T == both(s.tag, s.top) {
			*T = both(s.tag+1, 0)
			s.ends(api.OK)
		}
	case s.what == "pop" && at == 7:
		*T = both(s.tag+1, 0)
		s.ends(api.ErrEmpty)
	case at == 1:
		s.loadT(T)
	case at == 2:
		if *E <= s.top {
			s.ends(api.ErrEmpty)
		}
	case at == 3:
		s.x = slots[s.top]
	case at == 4:
		s.exchange(T, both(s.tag, s.top+1))
	}
}

func (s *second) move2(at int, T *int64, slots []int64) {
	switch {
	case at == 1:
		s.loadT(T)
		if s.what == "push" && s.top == int64(s.room) {
			s.ends(api.ErrFull)
		} else if s.what != "push" && s.top == 0 {
			s.ends(api.ErrEmpty)
		}
	case s.what == "push" && at == 2:
		slots[s.top] = s.x
	case s.what == "push" && at == 3:
		*T = both(s.tag+1, s.top+1)
		s.ends(api.OK)
	case at == 2:
		s.x = slots[s.top-1]
	case s.what == "pop" && at == 3:
		*T = both(s.tag, s.top-1)
		s.ends(api.OK)
	case at == 3:
		s.exchange(T, both(s.tag, s.top-1))
	}
}

func (s *second) move3(at int, E, T *int64, slots []int64) {
	switch {
	case at == 1:
		s.loadT(T)
		s.h = *T
	case at == 2:
		s.t = *E
		if s.what == "push" && s.t-s.h >= int64(s.room) {
			s.ends(api.ErrFull)
		} else if s.what != "push" && s.h >= s.t {
			s.ends(api.ErrEmpty)
		}
	case s.what == "push" && at == 3:
		slots[s.t%int64(s.room)] = s.x
	case s.what == "push" && at == 4:
		*E = s.t + 1
		s.ends(api.OK)
	case at == 3:
		s.x = slots[s.h%int64(s.room)]
	case s.what == "pop" && at == 4:
		*T = s.h + 1
		s.ends(api.OK)
	case at == 4:
		s.exchange(T, s.h+1)
	}
}

// A pair is an operation, and the second one of the same kind.
type pair struct {
	o *deque.Op
	s *second
}

func begun(d deque.Deque, s second, what string, x int64) *pair {
	s.what, s.at = what, 1
	switch what {
	case "push":
		s.x = x
		return &pair{d.Push(x), &s}
	case "pop":
		return &pair{d.Pop(), &s}
	}
	return &pair{d.Steal(), &s}
}

// same does a move of both, and holds the ends and all words against each
// other; it tells whether they have ended.
func (p *pair) same(t *testing.T, m *mem.Mem, w []int64) bool {
	t.Helper()
	p.s.move(w)
	ended := p.o.Move(m)
	if ended != (p.s.at == 0) {
		t.Fatalf("%+v: ended is %v", *p.s, ended)
	}
	x, e := p.o.End()
	if ended && (x != p.s.x || e != p.s.e) || !ended && (x != 0 || e != api.ErrState) {
		t.Fatalf("%+v: the end is %d, %d", *p.s, x, e)
	}
	if got := all(m); !slices.Equal(got, w) {
		t.Fatalf("%+v: the words are %v, want %v", *p.s, got, w)
	}
	return ended
}

func TestAgainstSecondOne(t *testing.T) { // P9.2: two deques in one memory, with thieves
	for seed := range int64(600) {
		pick := rand.New(rand.NewSource(seed))
		room := [2]int{1 + pick.Intn(4), 1 + pick.Intn(4)}
		m, _ := mem.New(room[0] + room[1] + 5)
		w := make([]int64, m.Words())
		var d [2]deque.Deque
		var s [2]second
		for i, base := range []int{0, room[0] + 3} {
			s[i] = second{kind: 1 + pick.Intn(3), base: base, room: room[i]}
			d[i], _ = deque.New(m, s[i].kind, base, room[i])
		}
		m.Live(room[0]+2, 1)
		m.Store(room[0]+2, -3)
		w[room[0]+2] = -3
		var running [8]*pair
		for x := range int64(400) {
			who := pick.Intn(len(running))
			if running[who] == nil {
				what := "steal"
				if who < 2 {
					what = []string{"push", "pop", "push"}[pick.Intn(3)]
				}
				running[who] = begun(d[who%2], s[who%2], what, x)
			}
			if running[who].same(t, m, w) {
				running[who] = nil
			}
		}
	}
}
