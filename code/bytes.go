package code

import (
	"math"

	"haymow/api"
)

// writer puts a program's bytes down; what does not fit is a panic with the
// error, for Write to take.
type writer struct{ bytes []byte }

func (w *writer) program(p []Func) { putAll(w, p, w.function) }

func (w *writer) function(f Func) {
	w.small(f.Arity)
	putAll(w, f.Code, w.instruction)
}

func (w *writer) instruction(i Instr) {
	w.small(i.Op)
	w.small(i.A)
	w.small(i.B)
	w.small(i.C)
	w.wide(i.K)
}

func (w *writer) small(n int) {
	if n < 0 || n > math.MaxUint8 {
		panic(api.ErrRange)
	}
	w.bytes = append(w.bytes, byte(n))
}

func (w *writer) wide(n int) {
	if n < math.MinInt32 || n > math.MaxInt32 {
		panic(api.ErrRange)
	}
	for shift := 0; shift < 32; shift += 8 {
		w.bytes = append(w.bytes, byte(n>>shift))
	}
}

// putAll leaves it to small to refuse more things than a byte can count.
func putAll[T any](w *writer, things []T, put func(T)) {
	w.small(len(things))
	for _, thing := range things {
		put(thing)
	}
}

// reader takes a program's bytes away one by one; where there is none left,
// it is a panic with the error, for Read to take.
type reader struct{ rest []byte }

func (r *reader) program() []Func { return takeAll(r.small, r.function) }

func (r *reader) function() Func {
	return Func{Arity: r.small(), Code: takeAll(r.small, r.instruction)}
}

func (r *reader) instruction() Instr {
	return Instr{Op: r.small(), A: r.small(), B: r.small(), C: r.small(), K: r.wide()}
}

func (r *reader) small() int {
	if len(r.rest) == 0 {
		panic(api.ErrShort)
	}
	n := r.rest[0]
	r.rest = r.rest[1:]
	return int(n)
}

// wide goes by way of 32 bits, so that the highest bit becomes the sign.
func (r *reader) wide() int {
	var n uint32
	for shift := 0; shift < 32; shift += 8 {
		n |= uint32(r.small()) << shift
	}
	return int(int32(n))
}

// takeAll takes how many things there are, and then each of them.
func takeAll[T any](count func() int, take func() T) []T {
	things := make([]T, count())
	for i := range things {
		things[i] = take()
	}
	return things
}
