package pool

import "haymow/api"

const (
	classes = 3
	maxSize = 64
	maxMany = 1000
)

// Shape is how many there are.
type Shape struct {
	Workers     int
	Sizes, Many [3]int
}

// class is where the blocks of one class are: the number of the first one,
// where it stands, how many words each has, and how many each worker has.
type class struct {
	first, at, size, many int
}

// Words tells how many words a pool's blocks have.
func Words(s Shape) int {
	if !s.mayBe() || s.words() > api.MaxWords {
		return 0
	}
	return s.words()
}

func (s Shape) mayBe() bool {
	if s.Workers < 1 || s.Workers > api.MaxWorkers {
		return false
	}
	for c := range classes {
		if s.Sizes[c] < 1 || s.Sizes[c] > maxSize || s.Many[c] < 0 || s.Many[c] > maxMany {
			return false
		}
	}
	return true
}

func (s Shape) words() (sum int) {
	for c := range classes {
		sum += s.Workers * s.Many[c] * s.Sizes[c]
	}
	return sum
}

// layOut puts the classes one behind the other, from block 1 on, which stands
// at base.
func (s Shape) layOut(base int) (l [classes]class) {
	first := 1
	for c := range classes {
		l[c] = class{first: first, at: base, size: s.Sizes[c], many: s.Many[c]}
		first += s.Workers * s.Many[c]
		base += s.Workers * s.Many[c] * s.Sizes[c]
	}
	return l
}

// rowOf is a worker's free row at first: its own blocks, the lowest one the
// next to be taken.
func (k class) rowOf(w int) []int {
	row := make([]int, 0, k.many)
	for nth := k.many - 1; nth >= 0; nth-- {
		row = turn(row, 0, k.first+w*k.many+nth)
	}
	return row
}
