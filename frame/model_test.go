package frame_test

import (
	"math/rand"
	"slices"
	"testing"

	"haymow/api"
	"haymow/code"
	"haymow/eval"
	"haymow/frame"
	"haymow/sample"
)

// model does an instruction by the chapters' words alone, in one switch.
func model(p []code.Func, l eval.Limits, f *frame.Frame) (e frame.Effect, errno api.Errno) {
	if f.Fn < 0 || f.Fn >= len(p) || f.At < 0 || f.At >= len(p[f.Fn].Code) {
		return e, api.ErrState
	}
	if f.Steps >= l.Budget {
		return frame.Effect{Kind: 8, Why: 3}, api.OK
	}
	in, r := p[f.Fn].Code[f.At], &f.Regs
	f.Steps, f.At, e.Kind = f.Steps+1, f.At+1, 1
	switch name := code.Name(in.Op); {
	case name == "spawn" || name == "future":
		if len(f.Path) >= l.Depth {
			return frame.Effect{Kind: 8, Why: 4}, api.OK
		}
		e = frame.Effect{Kind: 3, Reg: in.A, Fn: in.C, Args: slices.Clone(r[in.B : in.B+p[in.C].Arity]), Path: append(slices.Clone(f.Path), f.Kids)}
		if name == "future" {
			e.Kind, e.Reg, e.Hand = 4, 0, in.A
		}
		f.Kids++
	case name == "sync":
		e.Kind = 5
	case name == "touch" && f.Hands[in.B] != 0:
		e = frame.Effect{Kind: 6, Reg: in.A, Hand: f.Hands[in.B]}
	case name == "touch":
		e = frame.Effect{Kind: 8, Why: 2}
	case name == "emit":
		e = frame.Effect{Kind: 2, Value: r[in.A]}
	case name == "fail":
		e = frame.Effect{Kind: 8, Why: in.K}
	case name == "ret":
		e = frame.Effect{Kind: 7, Reg: in.A}
	case name == "jump" || name == "zero" && r[in.A] == 0:
		f.At = in.K
	case name == "div" && r[in.C] == 0:
		e = frame.Effect{Kind: 8, Why: 1}
	case name != "zero":
		r[in.A] = computed(name, int64(in.K), r[in.B], r[in.C])
	}
	return e, api.OK
}

func computed(name string, k, b, c int64) int64 {
	switch {
	case name == "set":
		return k
	case name == "move":
		return b
	case name == "add":
		return b + c
	case name == "sub":
		return b - c
	case name == "mul":
		return b * c
	case name == "div":
		return b / c
	case name == "less" && b < c, name == "same" && b == c:
		return 1
	}
	return 0
}

// drawn is a frame that mostly is at an instruction of the program.
func drawn(r *rand.Rand, p []code.Func) frame.Frame {
	f := frame.Frame{Fn: r.Intn(len(p)), Steps: r.Intn(12), Kids: r.Intn(5), Path: make([]int, r.Intn(4))}
	f.At = r.Intn(len(p[f.Fn].Code))
	if r.Intn(20) == 0 {
		f.Fn, f.At = r.Intn(7)-1, r.Intn(20)-2
	}
	for i := range f.Path {
		f.Path[i] = r.Intn(9)
	}
	for i := range f.Regs {
		f.Regs[i] = []int64{int64(r.Intn(5) - 2), int64(r.Uint64())}[r.Intn(2)]
	}
	for i := range f.Hands {
		f.Hands[i] = r.Intn(3)
	}
	return f
}

func TestAgainstTheModel(t *testing.T) { // P12.1, R4, R5
	r := rand.New(rand.NewSource(121))
	kinds := map[frame.Kind]int{}
	for range 4000 {
		p := sample.Program(r.Intn)
		bytes, _ := code.Write(p)
		for range 10 {
			f := drawn(r, p)
			l := eval.Limits{Budget: 1 + r.Intn(20), Depth: r.Intn(5)}
			got, want, again := twin(f), twin(f), twin(f)
			effect, e := frame.Exec(p, l, &got)
			meant, errno := model(p, l, &want)
			if e != errno || !same(effect, meant) || !sameFrame(got, want) {
				t.Fatalf("%v of %v, %v:\n%v, %d, %v; want\n%v, %d, %v", f, p, l, effect, e, got, meant, errno, want)
			}
			if twice, e := frame.Exec(p, l, &again); e != errno || !same(twice, meant) || !sameFrame(again, want) {
				t.Fatalf("%v of %v, %v: another time %v, %d", f, p, l, twice, e)
			}
			kinds[effect.Kind]++
		}
		if after, _ := code.Write(p); !slices.Equal(bytes, after) {
			t.Fatalf("%v is changed", p)
		}
	}
	for kind := frame.Kind(0); kind <= frame.Fails; kind++ {
		if kinds[kind] < 200 {
			t.Errorf("only %d come to %d", kinds[kind], kind)
		}
	}
}
