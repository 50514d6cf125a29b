package sample_test

import (
	"math/rand"
	"testing"

	"haymow/api"
	"haymow/ops"
	"haymow/sample"
	"haymow/valid"
)

func TestAllMayRunAndEachOperationIsUsed(t *testing.T) {
	r := rand.New(rand.NewSource(1))
	var used [ops.Ret + 1]int
	for range 2000 {
		p := sample.Program(r.Intn)
		if f, at, e := valid.Check(p); e != api.OK {
			t.Fatalf("%v: %d, %d, %d", p, f, at, e)
		}
		if args := sample.Args(r.Intn, p); len(args) != p[0].Arity {
			t.Fatalf("%v: arguments %v", p, args)
		}
		for _, f := range p {
			for _, in := range f.Code {
				used[in.Op]++
			}
		}
	}
	for op := ops.Set; op <= ops.Ret; op++ {
		if used[op] < 100 {
			t.Errorf("operation %d: %d times", op, used[op])
		}
	}
}
