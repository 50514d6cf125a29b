// Package mem is layer 1: see shared/doc/01-mem.md.
package mem

import "haymow/api"

// Mem is words that many share.
type Mem struct {
	words []word
	steps int
}

// The zero word is what all words are at first: free, and 0.
type word struct {
	live   bool
	number int64
}

// New is a memory.
func New(words int) (*Mem, api.Errno) {
	if words < 0 || words > api.MaxWords {
		return nil, api.ErrArg
	}
	return &Mem{words: make([]word, words)}, api.OK
}

// Words tells how many there are.
func (m *Mem) Words() int {
	if m == nil {
		return 0
	}
	return len(m.words)
}

// Live makes words live.
func (m *Mem) Live(at, n int) api.Errno { return m.turn(at, n, true) }

// Free makes them free.
func (m *Mem) Free(at, n int) api.Errno { return m.turn(at, n, false) }

// turn looks at all n words ahead of turning the first one, because beside an
// error nothing is done.
func (m *Mem) turn(at, n int, live bool) api.Errno {
	if m == nil {
		return api.ErrState
	}
	if !m.has(at, n) {
		return api.ErrRange
	}
	row := m.words[at : at+n]
	for _, w := range row {
		if w.live == live {
			return api.ErrState
		}
	}
	for i := range row {
		row[i] = word{live: live}
	}
	return api.OK
}

// has subtracts where one might add, because at and n together may go round.
func (m *Mem) has(at, n int) bool {
	return n >= 0 && at >= 0 && n <= len(m.words)-at
}

// Load loads a word.
func (m *Mem) Load(at int) (int64, api.Errno) {
	var found int64
	e := m.step(at, func(is int64) int64 {
		found = is
		return is
	})
	return found, e
}

// Store stores one.
func (m *Mem) Store(at int, n int64) api.Errno {
	return m.step(at, func(int64) int64 { return n })
}

// Swap exchanges one.
func (m *Mem) Swap(at int, was, n int64) (bool, api.Errno) {
	swapped := false
	e := m.step(at, func(is int64) int64 {
		if is != was {
			return is
		}
		swapped = true
		return n
	})
	return swapped, e
}

// Add adds to one.
func (m *Mem) Add(at int, n int64) (int64, api.Errno) {
	var sum int64
	e := m.step(at, func(is int64) int64 {
		sum = is + n
		return sum
	})
	return sum, e
}

// step hands do the number of one word alone, and not the word, so that no
// step can change another one, or whether one is live.
func (m *Mem) step(at int, do func(is int64) int64) api.Errno {
	if m == nil {
		return api.ErrState
	}
	if at < 0 || at >= len(m.words) {
		return api.ErrRange
	}
	w := &m.words[at]
	if !w.live {
		return api.ErrFree
	}
	w.number = do(w.number)
	m.steps++
	return api.OK
}

// Steps tells how many steps were done.
func (m *Mem) Steps() int {
	if m == nil {
		return 0
	}
	return m.steps
}
