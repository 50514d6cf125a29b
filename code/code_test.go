package code_test

import (
	"bytes"
	"math"
	"math/rand"
	"slices"
	"testing"

	"haymow/api"
	"haymow/code"
)

// same holds programs against each other; an empty list and nil are the same (R3).
func same(p, q []code.Func) bool {
	return slices.EqualFunc(p, q, func(f, g code.Func) bool {
		return f.Arity == g.Arity && slices.Equal(f.Code, g.Code)
	})
}

// one is a program of one function with one instruction.
func one(i code.Instr) []code.Func {
	return []code.Func{{Code: []code.Instr{i}}}
}

func TestWriteExamples(t *testing.T) { // P2.1
	for _, c := range []struct {
		p []code.Func
		b []byte
	}{
		{nil, []byte{72, 0}},
		{[]code.Func{}, []byte{72, 0}},
		{[]code.Func{{}}, []byte{72, 1, 0, 0}},
		{one(code.Instr{Op: 17}), []byte{72, 1, 0, 1, 17, 0, 0, 0, 0, 0, 0, 0}},
		{
			[]code.Func{{Arity: 2, Code: []code.Instr{{Op: 11, A: 1, B: 2, C: 3, K: 4}, {Op: 16, K: -16}}}, {Arity: 5}},
			[]byte{72, 2, 2, 2, 11, 1, 2, 3, 4, 0, 0, 0, 16, 0, 0, 0, 240, 255, 255, 255, 5, 0},
		},
	} {
		if b, e := code.Write(c.p); e != api.OK || !bytes.Equal(b, c.b) {
			t.Errorf("Write(%v): %v, %d; want %v", c.p, b, e, c.b)
		}
		if p, e := code.Read(c.b); e != api.OK || !same(p, c.p) {
			t.Errorf("Read(%v): %v, %d; want %v", c.b, p, e, c.p)
		}
	}
}

func TestBytesOfK(t *testing.T) { // P2.1, P2.3
	for k, want := range map[int][]byte{
		0:                 {0, 0, 0, 0},
		1:                 {1, 0, 0, 0},
		-1:                {255, 255, 255, 255},
		127:               {127, 0, 0, 0},
		128:               {128, 0, 0, 0},
		-128:              {128, 255, 255, 255},
		255:               {255, 0, 0, 0},
		256:               {0, 1, 0, 0},
		-256:              {0, 255, 255, 255},
		0x01020304:        {4, 3, 2, 1},
		math.MaxInt32 - 1: {254, 255, 255, 127},
		math.MaxInt32:     {255, 255, 255, 127},
		math.MinInt32 + 1: {1, 0, 0, 128},
		math.MinInt32:     {0, 0, 0, 128},
	} {
		b, e := code.Write(one(code.Instr{K: k}))
		if e != api.OK || len(b) != 12 || !bytes.Equal(b[8:], want) {
			t.Errorf("K %d: %v, %d; want %v at the end", k, b, e, want)
			continue
		}
		if p, e := code.Read(b); e != api.OK || !same(p, one(code.Instr{K: k})) {
			t.Errorf("K %d is read as %v, %d", k, p, e)
		}
	}
}

// withField tells programs each of which has n in another field of one byte.
func withField(n int) map[string][]code.Func {
	return map[string][]code.Func{
		"arity": {{Arity: n}},
		"Op":    one(code.Instr{Op: n}),
		"A":     one(code.Instr{A: n}),
		"B":     one(code.Instr{B: n}),
		"C":     one(code.Instr{C: n}),
	}
}

func TestFieldsOfOneByte(t *testing.T) { // P2.1, P2.3
	places := map[string]int{"arity": 2, "Op": 4, "A": 5, "B": 6, "C": 7}
	for n := range 256 {
		for field, p := range withField(n) {
			b, e := code.Write(p)
			if e != api.OK || b[places[field]] != byte(n) {
				t.Errorf("%s %d: %v, %d", field, n, b, e)
				continue
			}
			if q, e := code.Read(b); e != api.OK || !same(q, p) {
				t.Errorf("%s %d is read as %v, %d", field, n, q, e)
			}
		}
	}
}

func TestWriteRefusesNumbers(t *testing.T) { // P2.1
	for _, n := range []int{-1, -256, 256, 257, 512, 1 << 32, math.MinInt, math.MaxInt} {
		for field, p := range withField(n) {
			if b, e := code.Write(p); e != api.ErrRange || len(b) != 0 {
				t.Errorf("%s %d: %v, %d; want ErrRange and nothing", field, n, b, e)
			}
		}
	}
	for _, k := range []int{math.MaxInt32 + 1, math.MinInt32 - 1, 1 << 32, -1 << 32, math.MaxInt, math.MinInt} {
		if b, e := code.Write(one(code.Instr{K: k})); e != api.ErrRange || len(b) != 0 {
			t.Errorf("K %d: %v, %d; want ErrRange and nothing", k, b, e)
		}
	}
}

func TestWriteRefusesTheLastNumber(t *testing.T) { // P2.1
	good := code.Instr{Op: 17}
	p := []code.Func{{Arity: 1, Code: []code.Instr{good, good}}, {Code: []code.Instr{good, {Op: 17, K: 1 << 31}}}}
	if b, e := code.Write(p); e != api.ErrRange || len(b) != 0 {
		t.Errorf("Write: %v, %d; want ErrRange and nothing", b, e)
	}
}

func TestHowManyMayBe(t *testing.T) { // P2.1, P2.3
	for n, want := range map[int]api.Errno{0: api.OK, 1: api.OK, 254: api.OK, 255: api.OK, 256: api.ErrRange, 257: api.ErrRange, 512: api.ErrRange, 70000: api.ErrRange} {
		functions := make([]code.Func, n)
		instructions := []code.Func{{}, {Arity: 3, Code: make([]code.Instr, n)}}
		for _, p := range [][]code.Func{functions, instructions} {
			b, e := code.Write(p)
			if e != want || e != api.OK && len(b) != 0 {
				t.Errorf("%d: %d bytes, %d; want %d", n, len(b), e, want)
			}
			if e != api.OK {
				continue
			}
			if q, e := code.Read(b); e != api.OK || !same(q, p) {
				t.Errorf("%d is not read as it was: %d", n, e)
			}
		}
	}
}

func TestTheGreatestProgram(t *testing.T) { // P2.1, P2.3
	p := make([]code.Func, 255)
	for i := range p {
		p[i] = code.Func{Arity: i, Code: make([]code.Instr, 255)}
		for j := range p[i].Code {
			p[i].Code[j] = code.Instr{Op: j, A: i, B: 255 - j, C: 255 - i, K: (i - 128) * (j + 1) << 15}
		}
	}
	b, e := code.Write(p)
	if e != api.OK || len(b) != 2+255*(2+255*8) {
		t.Fatalf("%d bytes, %d", len(b), e)
	}
	if q, e := code.Read(b); e != api.OK || !same(q, p) {
		t.Errorf("it is not read as it was: %d", e)
	}
}

func TestReadWrongBytes(t *testing.T) { // P2.1
	for _, c := range []struct {
		b []byte
		e api.Errno
	}{
		{nil, api.ErrForm}, {[]byte{}, api.ErrForm},
		{[]byte{0}, api.ErrForm}, {[]byte{71}, api.ErrForm}, {[]byte{73, 0}, api.ErrForm},
		{[]byte{0, 72, 0}, api.ErrForm}, {[]byte{71, 0, 0}, api.ErrForm}, {[]byte{200, 1}, api.ErrForm},
		{[]byte{72}, api.ErrShort}, {[]byte{72, 1}, api.ErrShort}, {[]byte{72, 1, 0}, api.ErrShort},
		{[]byte{72, 255}, api.ErrShort}, {[]byte{72, 1, 0, 255}, api.ErrShort},
		{[]byte{72, 1, 0, 1, 17, 0, 0, 0, 0, 0, 0}, api.ErrShort},
		{[]byte{72, 2, 0, 0}, api.ErrShort},
		{[]byte{72, 0, 0}, api.ErrLong}, {[]byte{72, 0, 72, 0}, api.ErrLong}, {[]byte{72, 1, 0, 0, 0}, api.ErrLong},
		{[]byte{72, 1, 0, 1, 17, 0, 0, 0, 0, 0, 0, 0, 0}, api.ErrLong},
	} {
		if p, e := code.Read(c.b); e != c.e || len(p) != 0 {
			t.Errorf("Read(%v): %v, %d; want nothing, %d", c.b, p, e, c.e)
		}
	}
}

func TestReadEachPart(t *testing.T) { // P2.1
	p := []code.Func{{Arity: 2, Code: []code.Instr{{Op: 1, A: 1, K: 9}, {Op: 17, A: 1}}}, {}, {Arity: 1, Code: []code.Instr{{Op: 12}}}}
	b, e := code.Write(p)
	if e != api.OK {
		t.Fatalf("Write: %d", e)
	}
	for n := 1; n < len(b); n++ {
		if q, e := code.Read(b[:n]); e != api.ErrShort || len(q) != 0 {
			t.Errorf("of the first %d bytes: %v, %d; want nothing, ErrShort", n, q, e)
		}
	}
	for n := 1; n < 20; n++ {
		if q, e := code.Read(append(bytes.Clone(b), make([]byte, n)...)); e != api.ErrLong || len(q) != 0 {
			t.Errorf("with %d bytes more: %v, %d; want nothing, ErrLong", n, q, e)
		}
	}
}

func TestReadTakesAnyOperation(t *testing.T) { // P2.1: whether it may run is another layer's question
	b := []byte{72, 1, 255, 1, 255, 255, 255, 255, 255, 255, 255, 255}
	want := []code.Func{{Arity: 255, Code: []code.Instr{{Op: 255, A: 255, B: 255, C: 255, K: -1}}}}
	if p, e := code.Read(b); e != api.OK || !same(p, want) {
		t.Errorf("Read: %v, %d; want %v", p, e, want)
	}
}

// table is the chapter's, in its order.
var table = []string{
	"set", "move", "add", "sub", "mul", "div", "less", "same", "jump", "zero",
	"spawn", "sync", "future", "touch", "emit", "fail", "ret",
}

func TestNames(t *testing.T) { // P2.2
	for i, name := range table {
		if got := code.Name(i + 1); got != name {
			t.Errorf("Name(%d): %q; want %q", i+1, got, name)
		}
		if got := code.Named(name); got != i+1 {
			t.Errorf("Named(%q): %d; want %d", name, got, i+1)
		}
	}
	for _, op := range []int{0, -1, -17, 18, 19, 72, 255, 256, 257, 273, 1<<32 + 1, math.MinInt, math.MaxInt} {
		if got := code.Name(op); got != "" {
			t.Errorf("Name(%d): %q; want none", op, got)
		}
	}
	for _, name := range []string{"", " ", "Set", "SET", "se", "sets", " set", "set ", "set\n", "set\x00", "retmove", "r0", "1", "func", "\xff"} {
		if got := code.Named(name); got != 0 {
			t.Errorf("Named(%q): %d; want none", name, got)
		}
	}
}

func drawProgram(r *rand.Rand) []code.Func {
	p := make([]code.Func, r.Intn(5))
	for i := range p {
		p[i] = code.Func{Arity: r.Intn(256), Code: make([]code.Instr, r.Intn(6))}
		for j := range p[i].Code {
			p[i].Code[j] = code.Instr{Op: r.Intn(256), A: r.Intn(256), B: r.Intn(256), C: r.Intn(256), K: int(int32(r.Uint32()))}
		}
	}
	return p
}

func TestWrittenIsReadAsItWas(t *testing.T) { // P2.3
	r := rand.New(rand.NewSource(1))
	for range 2000 {
		p := drawProgram(r)
		b, e := code.Write(p)
		if e != api.OK {
			t.Fatalf("Write(%v): %d", p, e)
		}
		if q, e := code.Read(b); e != api.OK || !same(q, p) {
			t.Fatalf("Read(%v): %v, %d; want %v", b, q, e, p)
		}
	}
}

// drawBytes draws small counts, so that many of the rows are a program's.
func drawBytes(r *rand.Rand) []byte {
	b := []byte{72, byte(r.Intn(3))}
	for range b[1] {
		n := r.Intn(3)
		b = append(b, byte(r.Intn(256)), byte(n))
		for range n * 8 {
			b = append(b, byte(r.Intn(256)))
		}
	}
	if r.Intn(2) == 0 {
		b[r.Intn(len(b))] = byte(r.Intn(256))
	}
	return b
}

func TestReadIsWrittenAsItWas(t *testing.T) { // P2.3
	r := rand.New(rand.NewSource(2))
	reads := 0
	for range 5000 {
		b := drawBytes(r)
		p, e := code.Read(b)
		if e != api.OK {
			continue
		}
		reads++
		if c, e := code.Write(p); e != api.OK || !bytes.Equal(c, b) {
			t.Fatalf("Write(%v): %v, %d; want %v", p, c, e, b)
		}
	}
	if reads < 2500 {
		t.Errorf("only %d of the rows are a program's", reads)
	}
}

func TestWhatIsHandedInStays(t *testing.T) { // R4
	spare := code.Instr{Op: 99}
	instructions := []code.Instr{{Op: 1, K: 7}, {Op: 17}, spare}
	p := []code.Func{{Arity: 1, Code: instructions[:2]}, {Arity: 9}}
	b, _ := code.Write(p[:1])
	if instructions[0] != (code.Instr{Op: 1, K: 7}) || instructions[1] != (code.Instr{Op: 17}) || instructions[2] != spare || p[0].Arity != 1 || p[1].Arity != 9 {
		t.Errorf("Write changed what it was handed: %v, %v", p, instructions)
	}

	room := append(bytes.Clone(b), 1, 2, 3)
	before := bytes.Clone(room)
	q, e := code.Read(room[:len(b)])
	if e != api.OK || !bytes.Equal(room, before) {
		t.Errorf("Read changed what it was handed: %v, %d; want %v", room, e, before)
	}
	clear(room)
	if !same(q, p[:1]) {
		t.Errorf("Read kept what it was handed: %v", q)
	}
}

func TestWhatIsHandedOutIsNew(t *testing.T) { // R4, R5
	p := one(code.Instr{Op: 17, A: 1})
	b, _ := code.Write(p)
	c, _ := code.Write(p)
	clear(b)
	if !bytes.Equal(c, []byte{72, 1, 0, 1, 17, 1, 0, 0, 0, 0, 0, 0}) {
		t.Errorf("two answers of Write share their bytes: %v", c)
	}

	two := []byte{72, 2, 0, 1, 17, 1, 0, 0, 0, 0, 0, 0, 0, 1, 17, 1, 0, 0, 0, 0, 0, 0}
	q, _ := code.Read(two)
	s, _ := code.Read(two)
	q[0].Code = append(q[0].Code, code.Instr{Op: 5})
	q[0].Code[0].A = 7
	if q[1].Code[0].A != 1 || s[0].Code[0].A != 1 {
		t.Errorf("lists of Read's answers share their room: %v, %v", q, s)
	}
}

func FuzzRead(f *testing.F) { // P2.3, R1
	for _, b := range [][]byte{nil, {72}, {72, 0}, {72, 1, 0, 1, 17, 0, 0, 0, 0, 0, 0, 0}, {72, 255, 255, 255}} {
		f.Add(b)
	}
	f.Fuzz(func(t *testing.T, b []byte) {
		p, e := code.Read(b)
		if e != api.OK {
			if len(p) != 0 {
				t.Errorf("Read(%v): %v beside %d", b, p, e)
			}
			return
		}
		if c, e := code.Write(p); e != api.OK || !bytes.Equal(c, b) {
			t.Errorf("Write(%v): %v, %d; want %v", p, c, e, b)
		}
	})
}
