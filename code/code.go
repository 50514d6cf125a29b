// Package code is layer 2: see shared/doc/02-code.md.
package code

import "haymow/api"

// Instr is an instruction.
type Instr struct {
	Op, A, B, C int
	K           int
}

// Func is a function.
type Func struct {
	Arity int
	Code  []Instr
}

// The byte with which each program begins.
const mark = 72

// Write writes a program.
func Write(p []Func) (b []byte, e api.Errno) {
	defer func() {
		if wrong := recover(); wrong != nil {
			b, e = nil, wrong.(api.Errno)
		}
	}()
	w := &writer{bytes: []byte{mark}}
	w.program(p)
	return w.bytes, api.OK
}

// Read reads one.
func Read(b []byte) (p []Func, e api.Errno) {
	defer func() {
		if wrong := recover(); wrong != nil {
			p, e = nil, wrong.(api.Errno)
		}
	}()
	if len(b) == 0 || b[0] != mark {
		panic(api.ErrForm)
	}
	r := &reader{rest: b[1:]}
	p = r.program()
	if len(r.rest) > 0 {
		panic(api.ErrLong)
	}
	return p, api.OK
}
