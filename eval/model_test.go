package eval_test

import (
	"math/rand"
	"slices"
	"testing"

	"haymow/api"
	"haymow/code"
	"haymow/eval"
	"haymow/path"
	"haymow/sample"
)

// model evaluates by the chapter's words alone: no panics, one switch.
type model struct {
	program []code.Func
	limits  eval.Limits
	done    int
	told    []int64
	log     []eval.Entry
}

type hand struct {
	there bool
	value int64
}

func (m *model) task(fn int, args []int64, at []int, hands [4]hand) (value int64, fail int) {
	me, place, kids := len(m.log), 0, 0
	m.log = append(m.log, eval.Entry{Path: at})
	var r [8]int64
	copy(r[:], args)
	var regs []int
	var values []int64
	for {
		if m.log[me].Steps == m.limits.Budget {
			return 0, 3
		}
		m.log[me].Steps++
		m.done++
		in := m.program[fn].Code[place]
		place++
		if in.Op == 12 || in.Op == 17 {
			for i := range regs {
				r[regs[i]] = values[i]
			}
			regs, values = nil, nil
		}
		switch in.Op {
		case 9, 10:
			if in.Op == 9 || r[in.A] == 0 {
				place = in.K
			}
		case 11, 13:
			if len(at) == m.limits.Depth {
				return 0, 4
			}
			given := slices.Clone(r[in.B : in.B+m.program[in.C].Arity])
			v, why := m.task(in.C, given, append(slices.Clone(at), kids), hands)
			if why != 0 {
				return 0, why
			}
			kids++
			if in.Op == 13 {
				hands[in.A] = hand{true, v}
			} else {
				regs, values = append(regs, in.A), append(values, v)
			}
		case 12:
		case 14:
			if !hands[in.B].there {
				return 0, 2
			}
			r[in.A] = hands[in.B].value
		case 15:
			m.told = append(m.told, r[in.A])
		case 16:
			return 0, in.K
		case 17:
			return r[in.A], 0
		default:
			v, ok := computed(in, r)
			if !ok {
				return 0, 1
			}
			r[in.A] = v
		}
	}
}

func computed(in code.Instr, r [8]int64) (int64, bool) {
	b, c := r[in.B], r[in.C]
	switch {
	case in.Op == 1:
		return int64(in.K), true
	case in.Op == 2:
		return b, true
	case in.Op == 3:
		return b + c, true
	case in.Op == 4:
		return b - c, true
	case in.Op == 5:
		return b * c, true
	case in.Op == 6 && c == 0:
		return 0, false
	case in.Op == 6:
		return b / c, true
	case in.Op == 7 && b < c, in.Op == 8 && b == c:
		return 1, true
	}
	return 0, true
}

func draw(r *rand.Rand) ([]code.Func, []int64, eval.Limits) {
	p := sample.Program(r.Intn)
	l := eval.Limits{Budget: 1 + r.Intn(30), Depth: r.Intn(4)}
	if r.Intn(2) == 0 {
		l.Budget = 30
	}
	return p, sample.Args(r.Intn, p), l
}

func TestAgainstTheModel(t *testing.T) { // P6.1, P6.2
	r := rand.New(rand.NewSource(6))
	ends := map[int]int{}
	for range 20000 {
		p, args, l := draw(r)
		m := &model{program: p, limits: l}
		value, fail := m.task(0, args, nil, [4]hand{})
		want := eval.Result{Value: value, Fail: fail, Told: m.told, Log: m.log}
		ends[fail]++
		got, e := eval.Eval(p, args, l, m.done)
		if e != api.OK || !same(got, want) {
			t.Fatalf("%v of %v, %v:\n%v, %d; want\n%v", p, args, l, got, e, want)
		}
		follows(t, got, l)
		if again, e := eval.Eval(p, args, l, m.done-1); e != api.ErrLong || !same(again, eval.Result{}) {
			t.Fatalf("%v of %v, %v, one too few: %v, %d", p, args, l, again, e)
		}
	}
	for fail := range 5 {
		if ends[fail] < 100 {
			t.Errorf("only %d end with %d", ends[fail], fail)
		}
	}
}

func follows(t *testing.T, r eval.Result, l eval.Limits) { // P6.2
	t.Helper()
	for i, entry := range r.Log {
		if entry.Steps < 1 || entry.Steps > l.Budget || len(entry.Path) > l.Depth {
			t.Fatalf("%v: %v", l, entry)
		}
		if i > 0 && path.Compare(r.Log[i-1].Path, entry.Path) != -1 {
			t.Fatalf("%v is not ahead of %v", r.Log[i-1].Path, entry.Path)
		}
	}
}

func TestWhatIsHandedInStaysAndOutIsNew(t *testing.T) { // R4, R5, P6.2
	r := rand.New(rand.NewSource(7))
	for range 500 {
		p, args, l := draw(r)
		room := append(slices.Clone(args), 77)
		bytes, _ := code.Write(p)
		first, e := eval.Eval(p, room[:len(args)], l, enough)
		if after, _ := code.Write(p); !slices.Equal(bytes, after) || !slices.Equal(room, append(slices.Clone(args), 77)) {
			t.Fatalf("%v, %v are changed", p, args)
		}
		for i := range first.Told {
			first.Told[i] = -99
		}
		apart(t, first.Log)
		m := &model{program: p, limits: l}
		value, fail := m.task(0, args, nil, [4]hand{})
		again, f := eval.Eval(p, args, l, enough)
		if e != f || !same(again, eval.Result{Value: value, Fail: fail, Told: m.told, Log: m.log}) {
			t.Fatalf("%v: %v, %d", p, again, f)
		}
	}
}

// apart writes into each path, and into its spare room: no other one may change.
func apart(t *testing.T, log []eval.Entry) {
	t.Helper()
	for i := range log {
		own := log[i].Path
		for k := range own[:cap(own)] {
			own[:cap(own)][k] = -i
		}
	}
	for i := range log {
		if slices.ContainsFunc(log[i].Path, func(n int) bool { return n != -i }) {
			t.Fatalf("the path of %d shares memory", i)
		}
	}
}

func TestDeepPathsAreApart(t *testing.T) { // R4
	p := program(t, "func 1; zero r0 5; set r1 -1; add r0 r0 r1; spawn r2 r0 f0; spawn r2 r0 f0; ret r0")
	r, e := eval.Eval(p, []int64{7}, wide, enough)
	if e != api.OK || len(r.Log) != 255 {
		t.Fatalf("%d tasks, %d", len(r.Log), e)
	}
	apart(t, r.Log)
}
