package asm

import (
	"strconv"
	"strings"

	"haymow/code"
	"haymow/ops"
)

type writer struct {
	letters map[ops.Kind]byte
	text    strings.Builder
}

func (w *writer) function(f code.Func) {
	w.text.WriteString(head)
	w.field(ops.Number, f.Arity)
	w.text.WriteByte('\n')
	for _, in := range f.Code {
		w.instruction(in)
	}
}

func (w *writer) instruction(in code.Instr) {
	w.text.WriteString(code.Name(in.Op))
	numbers := [...]int{in.A, in.B, in.C, in.K}
	for i, kind := range ops.Fields(in.Op) {
		if kind != ops.Unused {
			w.field(kind, numbers[i])
		}
	}
	w.text.WriteByte('\n')
}

func (w *writer) field(kind ops.Kind, n int) {
	w.text.WriteByte(' ')
	if letter, has := w.letters[kind]; has {
		w.text.WriteByte(letter)
	}
	w.text.WriteString(strconv.Itoa(n))
}
