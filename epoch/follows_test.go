package epoch_test

import (
	"math/rand"
	"slices"
	"testing"

	"haymow/api"
	"haymow/epoch"
)

// thing is one that was retired: by whom, when, and who has announced since.
type thing struct {
	name, by, at int
	since        map[int]int
}

// second is epochs in the plainest words of the chapter, in one row for all
// workers.
type second struct {
	workers, now int
	announced    map[int]int
	things       []thing
}

func (s *second) announce(w int) (gone []thing) {
	s.announced[w] = s.now
	all := 0
	for w := range s.workers {
		if at, ok := s.announced[w]; ok && at == s.now {
			all++
		}
	}
	if all == s.workers {
		s.now++
	}
	var stay []thing
	for _, x := range s.things {
		x.since[w]++
		if x.by == w && s.now >= x.at+2 {
			gone = append(gone, x)
		} else {
			stay = append(stay, x)
		}
	}
	s.things = stay
	return gone
}

func (s *second) limbo(w int) (many int) {
	for _, x := range s.things {
		if x.by == w {
			many++
		}
	}
	return many
}

// pair is epochs, and second ones to hold them against.
type pair struct {
	x     *epoch.Epochs
	s     *second
	names int
}

func newPair(t *testing.T, workers int) *pair {
	return &pair{x: made(t, workers), s: &second{workers: workers, announced: map[int]int{}}}
}

func (p *pair) retire(t *testing.T, w int) {
	t.Helper()
	p.names++
	if e := p.x.Retire(w, p.names); e != api.OK {
		t.Fatalf("Retire(%d): %d", w, e)
	}
	p.s.things = append(p.s.things, thing{name: p.names, by: w, at: p.s.now, since: map[int]int{}})
	p.look(t)
}

func (p *pair) announce(t *testing.T, w int) {
	t.Helper()
	got, e := p.x.Announce(w)
	var want []int
	for _, gone := range p.s.announce(w) {
		want = append(want, gone.name)
		if len(gone.since) != p.s.workers {
			t.Fatalf("%d goes, but since it was retired only %v have announced", gone.name, gone.since)
		}
	}
	if e != api.OK || !slices.Equal(got, want) {
		t.Fatalf("Announce(%d): %v, %d; want %v", w, got, e, want)
	}
	p.look(t)
}

func (p *pair) look(t *testing.T) {
	t.Helper()
	if p.x.Now() != p.s.now {
		t.Fatalf("the epoch is %d; want %d", p.x.Now(), p.s.now)
	}
	for w := range p.s.workers {
		if got, want := p.x.Limbo(w), p.s.limbo(w); got != want {
			t.Fatalf("Limbo(%d): %d; want %d", w, got, want)
		}
	}
}

// rounds asks whether all goes where all announce in turn.
func (p *pair) rounds(t *testing.T, turn []int) {
	t.Helper()
	for range 3 {
		for _, w := range turn {
			p.announce(t, w)
		}
	}
	for w := range p.s.workers {
		if p.x.Limbo(w) != 0 {
			t.Fatalf("behind three rounds the worker %d has %d", w, p.x.Limbo(w))
		}
	}
}

func TestManyCallsAgainstTheSecond(t *testing.T) { // P11.1, P11.2
	for seed := range int64(200) {
		r := rand.New(rand.NewSource(seed))
		p := newPair(t, 1+r.Intn(6))
		retires := 1 + r.Intn(4)
		for range 200 {
			if w := r.Intn(p.s.workers); r.Intn(5) < retires {
				p.retire(t, w)
			} else {
				p.announce(t, w)
			}
		}
		p.rounds(t, r.Perm(p.s.workers))
	}
}

func TestThreeRoundsOfAllWorkers(t *testing.T) { // P11.2
	p := newPair(t, api.MaxWorkers)
	turn := make([]int, api.MaxWorkers)
	for w := range turn {
		turn[w] = w
		p.announce(t, w/2)
		p.retire(t, w)
	}
	p.rounds(t, turn)
	slices.Reverse(turn)
	for w := range turn {
		p.retire(t, w)
	}
	p.rounds(t, turn)
}

// TestAllShortRows does each row of some announcings and retirings, and then
// three rounds, either way round.
func TestAllShortRows(t *testing.T) { // P11.1, P11.2
	for workers, long := range map[int]int{1: 10, 2: 7, 3: 5} {
		rows := 1
		for range long {
			rows *= 2 * workers
		}
		for row := range rows {
			turn := []int{0, 1, 2}[:workers]
			if row%2 == 1 {
				slices.Reverse(turn)
			}
			p := newPair(t, workers)
			for range long {
				if what := row % (2 * workers); what < workers {
					p.announce(t, what)
				} else {
					p.retire(t, what-workers)
				}
				row /= 2 * workers
			}
			p.rounds(t, turn)
		}
	}
}
