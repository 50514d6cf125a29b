package asm

import (
	"math"
	"strings"

	"haymow/api"
	"haymow/code"
	"haymow/figures"
	"haymow/ops"
)

const (
	maxText    = 1 << 16
	maxFigures = 10
	// What one byte of a program's bytes can hold, or count.
	maxSmall = math.MaxUint8
)

// reader puts a program together line by line; a line that is wrong is a panic
// with the error, for Parse to take.
type reader struct {
	letters map[ops.Kind]byte
	program []code.Func
}

// words are what stands between blanks, ahead of a note.
func words(line string) []string {
	said, _, _ := strings.Cut(line, "#")
	return strings.FieldsFunc(said, func(c rune) bool { return c == ' ' || c == '\t' || c == '\r' })
}

func (r *reader) line(words []string) {
	switch {
	case len(words) == 0:
	case words[0] == head:
		r.function(words[1:])
	default:
		r.instruction(code.Named(words[0]), words[1:])
	}
}

func (r *reader) function(words []string) {
	if len(words) != 1 {
		panic(api.ErrForm)
	}
	f := code.Func{Arity: natural(words[0], maxSmall)}
	r.program = appendSmall(r.program, f)
}

func (r *reader) instruction(op int, words []string) {
	if !ops.Known(op) || len(r.program) == 0 {
		panic(api.ErrForm)
	}
	var numbers [4]int
	for i, kind := range ops.Fields(op) {
		if kind == ops.Unused {
			continue
		}
		if len(words) == 0 {
			panic(api.ErrForm)
		}
		numbers[i] = r.field(kind, words[0])
		words = words[1:]
	}
	if len(words) > 0 {
		panic(api.ErrForm)
	}
	in := code.Instr{Op: op, A: numbers[0], B: numbers[1], C: numbers[2], K: numbers[3]}
	f := &r.program[len(r.program)-1]
	f.Code = appendSmall(f.Code, in)
}

func (r *reader) field(kind ops.Kind, word string) int {
	letter, has := r.letters[kind]
	if !has {
		return signed(word)
	}
	if word[0] != letter {
		panic(api.ErrForm)
	}
	return natural(word[1:], maxSmall)
}

func signed(word string) int {
	size, minus := strings.CutPrefix(word, "-")
	if !minus {
		return natural(word, math.MaxInt32)
	}
	n := natural(size, -math.MinInt32)
	if n == 0 {
		panic(api.ErrForm)
	}
	return -n
}

func natural(word string, most int) int {
	n, ok := figures.Natural(word, maxFigures)
	if !ok || n > most {
		panic(api.ErrForm)
	}
	return n
}

// appendSmall appends no more than a byte can count.
func appendSmall[T any](row []T, thing T) []T {
	if len(row) == maxSmall {
		panic(api.ErrLong)
	}
	return append(row, thing)
}
