package valid_test

import (
	"math"
	"math/rand"
	"slices"
	"testing"

	"haymow/api"
	"haymow/code"
	"haymow/valid"
)

var (
	ret   = code.Instr{Op: 17}
	small = code.Func{Code: []code.Instr{ret}}
)

// with is a program of one function: an instruction, and a ret behind it.
func with(in code.Instr) []code.Func {
	return []code.Func{{Code: []code.Instr{in, ret}}}
}

type answer struct {
	f, at int
	e     api.Errno
}

func check(p []code.Func) answer {
	f, at, e := valid.Check(p)
	return answer{f, at, e}
}

func wants(t *testing.T, p []code.Func, want answer) {
	t.Helper()
	if got := check(p); got != want {
		t.Errorf("Check(%v): %v; want %v", p, got, want)
	}
}

func TestExamples(t *testing.T) { // P3.1
	wants(t, []code.Func{{Code: []code.Instr{{Op: 17, A: 8}}}}, answer{0, 0, api.ErrRange})
	wants(t, []code.Func{{Code: []code.Instr{{Op: 1, K: 5}}}}, answer{0, 0, api.ErrState})
	wants(t, []code.Func{small}, answer{})
}

func TestHowManyFunctions(t *testing.T) { // P3.1, 1
	for _, n := range []int{0, 1, 2, 15, 16, 17, 18, 255, 1000} {
		p := make([]code.Func, n)
		for i := range p {
			p[i] = small
		}
		if n >= 1 && n <= api.MaxFuncs {
			wants(t, p, answer{})
			continue
		}
		wants(t, p, answer{0, 0, api.ErrLong})
		if n > 0 { // ahead of all that is wrong in the functions
			p[0].Arity = 9
			wants(t, p, answer{0, 0, api.ErrLong})
		}
	}
	wants(t, nil, answer{0, 0, api.ErrLong})
}

func TestArities(t *testing.T) { // P3.1, 2
	for _, n := range []int{math.MinInt, -1, 0, 1, 3, 4, 5, 6, 255, 256, math.MaxInt} {
		f := code.Func{Arity: n, Code: []code.Instr{ret}}
		want := answer{}
		if n < 0 || n > api.MaxArity {
			want = answer{2, 0, api.ErrRange}
		}
		wants(t, []code.Func{small, small, f, small}, want)
	}
	// ahead of how many instructions there are, and of what they are
	wants(t, []code.Func{small, {Arity: 5}}, answer{1, 0, api.ErrRange})
	wants(t, []code.Func{small, {Arity: -1, Code: []code.Instr{{}}}}, answer{1, 0, api.ErrRange})
}

func TestHowManyInstructions(t *testing.T) { // P3.1, 2
	for _, n := range []int{0, 1, 2, 63, 64, 65, 66, 256, 1000} {
		f := code.Func{Arity: 4, Code: make([]code.Instr, n)}
		for i := range f.Code {
			f.Code[i] = ret
		}
		want := answer{}
		if n < 1 || n > api.MaxCode {
			want = answer{1, 0, api.ErrLong}
		}
		wants(t, []code.Func{small, f, small}, want)
		if n > api.MaxCode { // ahead of what they are
			f.Code[0].Op = 99
			wants(t, []code.Func{small, f, small}, want)
		}
	}
}

func TestOperations(t *testing.T) { // P3.1, 3
	for _, op := range []int{math.MinInt, -1, 0, 18, 19, 255, 256, 273, 1<<32 + 17, math.MaxInt} {
		wants(t, with(code.Instr{Op: op}), answer{0, 0, api.ErrForm})
		wants(t, []code.Func{small, {Code: []code.Instr{ret, ret, {Op: op, A: 9, B: 9, C: 9, K: 9}}}}, answer{1, 2, api.ErrForm})
	}
}

// shapes tell what A, B, C and K of each operation are, from 1 on: r register,
// h future, f function, p instruction, w a fail's K, n a K; . is not used.
var shapes = []string{"", "r..n", "rr..", "rrr.", "rrr.", "rrr.", "rrr.", "rrr.", "rrr.", "...p", "r..p", "rrf.", "....", "hrf.", "rh..", "r...", "...w", "r..."}

// good is a number that such a field may be.
func good(shape byte) int {
	if shape == 'w' {
		return 16
	}
	return 0
}

func field(in *code.Instr, i int) *int { return [...]*int{&in.A, &in.B, &in.C, &in.K}[i] }

// instr is an instruction that may be.
func instr(op int) code.Instr {
	in := code.Instr{Op: op}
	for i := range 4 {
		*field(&in, i) = good(shapes[op][i])
	}
	return in
}

var edges = []int{math.MinInt, -1 << 32, math.MinInt32 - 1, math.MinInt32, -256, -1, 0, 1, 2, 3, 4, 5, 6, 7, 8, 9, 15, 16, 17, 63, 64, 255, 256, math.MaxInt32, math.MaxInt32 + 1, 1 << 32, 1<<32 + 16, math.MaxInt}

// fieldError is what is wrong with a field, in a program of that many functions
// and a function of that many instructions.
func fieldError(shape byte, n, functions, places int) api.Errno {
	low, high, e := 0, 0, api.ErrRange
	switch shape {
	case '.':
		e = api.ErrForm
	case 'r':
		high = 7
	case 'h':
		high = 3
	case 'f':
		high, e = functions-1, api.ErrName
	case 'p':
		high = places - 1
	case 'w':
		low, high = 16, 1<<31-1
	case 'n':
		low, high = -1<<31, 1<<31-1
	}
	if n < low || n > high {
		return e
	}
	return api.OK
}

func TestEachFieldAtItsEdges(t *testing.T) { // P3.1, 3
	for op := 1; op < len(shapes); op++ {
		for i := range 4 {
			for _, n := range edges {
				in := instr(op)
				*field(&in, i) = n
				p := []code.Func{small, {Code: []code.Instr{ret, in, ret}}, small}
				want := answer{e: fieldError(shapes[op][i], n, 3, 3)}
				if want.e != api.OK {
					want.f, want.at = 1, 1
				}
				wants(t, p, want)
			}
		}
	}
}

func TestUnusedFieldsComeFirst(t *testing.T) { // P3.1, 3
	for _, in := range []code.Instr{
		{Op: 1, A: 8, B: 1}, {Op: 1, A: 8, C: 1}, {Op: 1, C: 1, K: 1 << 40},
		{Op: 2, A: 8, C: 1}, {Op: 2, A: 8, B: 8, K: 1}, {Op: 3, A: -1, K: 1},
		{Op: 9, A: 1, K: 99}, {Op: 10, A: 8, C: 1}, {Op: 11, A: 8, C: 9, K: 1}, {Op: 13, C: 9, K: 1}, {Op: 16, A: 1},
	} {
		wants(t, with(in), answer{0, 0, api.ErrForm})
	}
}

func TestFieldsInTheirOrder(t *testing.T) { // P3.1, 3
	wants(t, with(code.Instr{Op: 11, A: 8, C: 1}), answer{0, 0, api.ErrRange})
	wants(t, with(code.Instr{Op: 11, B: 8, C: 1}), answer{0, 0, api.ErrRange})
	wants(t, with(code.Instr{Op: 11, B: 7, C: 1}), answer{0, 0, api.ErrName})
	wants(t, with(code.Instr{Op: 13, A: 4, C: 1}), answer{0, 0, api.ErrRange})
	wants(t, with(code.Instr{Op: 13, A: 3, B: 7, C: -1}), answer{0, 0, api.ErrName})
}

func TestRegistersOfArguments(t *testing.T) { // P3.1, 3
	for _, op := range []int{11, 13} {
		for arity := 0; arity <= api.MaxArity; arity++ {
			for b := range api.Regs {
				p := []code.Func{{Code: []code.Instr{{Op: op, B: b, C: 1}, ret}}, {Arity: arity, Code: []code.Instr{ret}}}
				want := answer{}
				if b+arity > api.Regs {
					want.e = api.ErrRange
				}
				wants(t, p, want)
			}
		}
	}
}

func TestArityOfALaterFunction(t *testing.T) { // P3.1, 3: it has not had its turn
	for arity, want := range map[int]answer{
		5: {1, 0, api.ErrRange}, -1: {1, 0, api.ErrRange}, math.MinInt: {1, 0, api.ErrRange},
		7: {0, 0, api.ErrRange}, 8: {0, 0, api.ErrRange}, math.MaxInt: {0, 0, api.ErrRange}, math.MaxInt - 1: {0, 0, api.ErrRange},
	} {
		wants(t, []code.Func{{Code: []code.Instr{{Op: 11, B: 2, C: 1}, ret}}, {Arity: arity, Code: []code.Instr{ret}}}, want)
	}
}

func TestLastInstruction(t *testing.T) { // P3.1, 4
	for op := 1; op < len(shapes); op++ {
		want := answer{1, 2, api.ErrState}
		if op == 9 || op == 16 || op == 17 {
			want = answer{}
		}
		wants(t, []code.Func{small, {Code: []code.Instr{ret, ret, instr(op)}}, small}, want)
	}
	// behind what is wrong in the instruction, ahead of the next function
	wants(t, []code.Func{{Code: []code.Instr{{Op: 12, A: 1}}}}, answer{0, 0, api.ErrForm})
	wants(t, []code.Func{{Code: []code.Instr{ret, {Op: 12}}}, {Arity: 5}}, answer{0, 1, api.ErrState})
	wants(t, []code.Func{{Code: []code.Instr{{Op: 15, A: 8}, {Op: 12}}}}, answer{0, 0, api.ErrRange})
}

func TestTheGreatest(t *testing.T) { // P3.1: all that may be at once
	p := make([]code.Func, api.MaxFuncs)
	for i := range p {
		p[i] = code.Func{Arity: api.MaxArity, Code: make([]code.Instr, api.MaxCode)}
		for j := range p[i].Code {
			p[i].Code[j] = code.Instr{Op: 13, A: 3, B: 4, C: 15}
		}
		p[i].Code[63] = code.Instr{Op: 9, K: 63}
	}
	wants(t, p, answer{})
	p[15].Code[63].K = 64
	wants(t, p, answer{15, 63, api.ErrRange})
}

// model asks everything of everything, and takes the first by its rank.
func model(p []code.Func) answer {
	if len(p) < 1 || len(p) > 16 {
		return answer{e: api.ErrLong}
	}
	var faults []answer
	for f := range p {
		if p[f].Arity < 0 || p[f].Arity > 4 {
			faults = append(faults, answer{f, 0, api.ErrRange})
		}
		if len(p[f].Code) < 1 || len(p[f].Code) > 64 {
			faults = append(faults, answer{f, 0, api.ErrLong})
		}
		for at := range p[f].Code {
			for _, e := range instrErrors(p, f, at) {
				faults = append(faults, answer{f, at, e})
			}
		}
		if last := len(p[f].Code) - 1; last >= 0 && !slices.Contains([]int{9, 16, 17}, p[f].Code[last].Op) {
			faults = append(faults, answer{f, last, api.ErrState})
		}
	}
	if len(faults) == 0 {
		return answer{}
	}
	return faults[0]
}

func instrErrors(p []code.Func, f, at int) (out []api.Errno) {
	in := p[f].Code[at]
	if in.Op < 1 || in.Op > 17 {
		return []api.Errno{api.ErrForm}
	}
	for _, unused := range []bool{true, false} {
		for i := range 4 {
			shape := shapes[in.Op][i]
			if e := fieldError(shape, *field(&in, i), len(p), len(p[f].Code)); e != api.OK && (shape == '.') == unused {
				out = append(out, e)
			}
		}
	}
	if shapes[in.Op][2] == 'f' && in.C >= 0 && in.C < len(p) && in.B+p[in.C].Arity > 8 {
		out = append(out, api.ErrRange)
	}
	return out
}

// draw draws a program that may run, most times, and hurts it sometimes.
func draw(r *rand.Rand, hurts int) []code.Func {
	p := make([]code.Func, 1+r.Intn(5))
	for i := range p {
		p[i] = code.Func{Arity: r.Intn(5), Code: make([]code.Instr, 1+r.Intn(6))}
		for j := range p[i].Code {
			p[i].Code[j] = drawInstr(r, len(p), len(p[i].Code))
		}
		p[i].Code[len(p[i].Code)-1] = code.Instr{Op: 17, A: r.Intn(8)}
	}
	for range hurts {
		f := &p[r.Intn(len(p))]
		at := r.Intn(len(f.Code))
		n := edges[r.Intn(len(edges))]
		switch r.Intn(8) {
		case 0:
			f.Arity = n >> 8 // not so great that the model's sums go round
		case 1:
			f.Code[at].Op = n
		case 2:
			f.Code[at] = instr(1 + r.Intn(17))
		default:
			*field(&f.Code[at], r.Intn(4)) = n
		}
	}
	return p
}

func drawInstr(r *rand.Rand, functions, places int) code.Instr {
	in := code.Instr{Op: 1 + r.Intn(17)}
	for i := range 4 {
		switch shapes[in.Op][i] {
		case 'r':
			*field(&in, i) = r.Intn(5)
		case 'h':
			*field(&in, i) = r.Intn(4)
		case 'f':
			*field(&in, i) = r.Intn(functions)
		case 'p':
			*field(&in, i) = r.Intn(places)
		case 'w':
			*field(&in, i) = 16 + r.Intn(1000)
		case 'n':
			*field(&in, i) = int(int32(r.Uint32()))
		}
	}
	return in
}

func TestModel(t *testing.T) { // P3.1
	r := rand.New(rand.NewSource(3))
	seen := map[api.Errno]int{}
	for range 30000 {
		p := draw(r, r.Intn(4))
		want := model(p)
		seen[want.e]++
		if got := check(p); got != want {
			t.Fatalf("Check(%v): %v; want %v", p, got, want)
		}
	}
	for _, e := range []api.Errno{api.OK, api.ErrForm, api.ErrName, api.ErrRange, api.ErrState} {
		if seen[e] < 100 {
			t.Errorf("only %d of the programs come to %d", seen[e], e)
		}
	}
}

func TestWhatMayRunFitsItsBytes(t *testing.T) { // P3.2
	r := rand.New(rand.NewSource(4))
	for range 5000 {
		p := draw(r, r.Intn(3))
		if check(p).e != api.OK {
			continue
		}
		if _, e := code.Write(p); e != api.OK {
			t.Fatalf("Write(%v): %d", p, e)
		}
	}
}

func TestOneFunctionMore(t *testing.T) { // P3.2
	r := rand.New(rand.NewSource(5))
	for range 5000 {
		p := draw(r, 0)
		wants(t, p, answer{})
		for len(p) < api.MaxFuncs {
			f := code.Func{Arity: r.Intn(5), Code: []code.Instr{drawInstr(r, len(p)+1, 2), ret}}
			p = append(p, f)
			wants(t, p, answer{})
		}
	}
}

func TestWhatIsHandedInStays(t *testing.T) { // R4, R5
	r := rand.New(rand.NewSource(6))
	for range 500 {
		p := draw(r, 1)
		before := slices.Clone(p)
		for i := range before {
			before[i].Code = slices.Clone(p[i].Code)
		}
		first := check(p)
		for i := range p {
			if p[i].Arity != before[i].Arity || !slices.Equal(p[i].Code, before[i].Code) {
				t.Fatalf("Check changed %v into %v", before, p)
			}
		}
		if again := check(p); again != first {
			t.Fatalf("Check(%v): %v, then %v", p, first, again)
		}
	}
}
