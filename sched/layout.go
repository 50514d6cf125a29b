package sched

import (
	"slices"

	"haymow/api"
	"haymow/cell"
	"haymow/deque"
	"haymow/epoch"
	"haymow/mem"
	"haymow/pool"
)

// The classes of blocks.
const (
	frames = iota
	cells
	chunks
)

const (
	kinds   = 3
	maxMany = 1000
	// A frame's words are a task's link, for where it waits for a cell, and
	// how many of the tasks that it has begun have not ended.
	frameWords = 2
	// A chunk's last word is spare: a task knows where its numbers stand.
	chunkWords = api.ChunkRoom + 1
)

// none is in place of a block.
const none = 0

func (c Config) mayBe() bool {
	if c.Workers < 1 || c.Workers > api.MaxWorkers || c.Kind < 1 || c.Kind > kinds || deque.Words(c.Room) == 0 {
		return false
	}
	return !slices.ContainsFunc(c.Many[:], func(n int) bool { return n < 0 || n > maxMany })
}

func (c Config) shape() pool.Shape {
	return pool.Shape{Workers: c.Workers, Sizes: [3]int{frameWords, cell.Words, chunkWords}, Many: c.Many}
}

// claimsAt is where the claims begin: behind the deques.
func (c Config) claimsAt() int { return c.Workers * deque.Words(c.Room) }

// blocksAt is where the blocks begin: behind the claims.
func (c Config) blocksAt() int { return c.claimsAt() + c.claims() }

func (c Config) claims() int { return c.Workers * c.Many[frames] }

// words counts by itself, because the layers below tell of too many words that
// they are 0.
func (c Config) words() int {
	sum := c.blocksAt()
	for class, size := range c.shape().Sizes {
		sum += c.Workers * c.Many[class] * size
	}
	return sum
}

// build makes the machine of a config that may be: so no layer below has an
// error to tell.
func (c Config) build() *Machine {
	m := &Machine{claims: c.claimsAt(), tasks: map[int]*task{}, begun: make(chan int64, api.MaxJobs)}
	var e api.Errno
	m.memory, e = mem.New(c.words())
	m.minds(e)
	m.minds(m.memory.Live(m.claims, c.claims()))
	m.pool, e = pool.New(m.memory, c.blocksAt(), c.shape())
	m.minds(e)
	m.epochs, e = epoch.New(c.Workers)
	m.minds(e)
	for n := range c.Workers {
		w := &worker{Machine: m, number: n}
		w.deque, e = deque.New(m.memory, c.Kind, n*deque.Words(c.Room), c.Room)
		m.minds(e)
		w.next = w.looks
		m.workers = append(m.workers, w)
	}
	return m
}
