package asm_test

import (
	"math/rand"
	"slices"
	"strconv"
	"strings"
	"testing"

	"haymow/api"
	"haymow/asm"
	"haymow/code"
	"haymow/valid"
)

func same(p, q []code.Func) bool {
	return slices.EqualFunc(p, q, func(f, g code.Func) bool {
		return f.Arity == g.Arity && slices.Equal(f.Code, g.Code)
	})
}

func parsesTo(t *testing.T, text string, want []code.Func) {
	t.Helper()
	if p, line, e := asm.Parse(text); e != api.OK || line != 0 || !same(p, want) {
		t.Errorf("Parse(%q): %v, %d, %d; want %v", text, p, line, e, want)
	}
}

func refuses(t *testing.T, text string, atLine int, want api.Errno) {
	t.Helper()
	if p, line, e := asm.Parse(text); e != want || line != atLine || len(p) != 0 {
		t.Errorf("Parse(%.80q): %v, %d, %d; want nothing, %d, %d", text, p, line, e, atLine, want)
	}
}

// each has every operation, with numbers that tell its fields apart.
var each = []code.Func{
	{Arity: 3, Code: []code.Instr{
		{Op: 1, A: 1, K: -5}, {Op: 2, A: 1, B: 2}, {Op: 3, A: 1, B: 2, C: 3}, {Op: 4, A: 4, B: 5, C: 6}, {Op: 5, A: 7, B: 0, C: 1},
		{Op: 6, A: 2, B: 3, C: 4}, {Op: 7, A: 5, B: 6, C: 7}, {Op: 8, A: 3, B: 2, C: 1}, {Op: 9, K: 3}, {Op: 10, A: 4, K: 2},
		{Op: 11, A: 7, B: 6, C: 1}, {Op: 12}, {Op: 13, A: 3, B: 4, C: 2}, {Op: 14, A: 6, B: 2}, {Op: 15, A: 5}, {Op: 16, K: 2147483647}, {Op: 17, A: 6},
	}},
	{Arity: 0, Code: []code.Instr{{Op: 17}}},
	{Arity: 4, Code: []code.Instr{{Op: 1, K: -2147483648}, {Op: 9}}},
}

const eachText = `func 3
set r1 -5
move r1 r2
add r1 r2 r3
sub r4 r5 r6
mul r7 r0 r1
div r2 r3 r4
less r5 r6 r7
same r3 r2 r1
jump 3
zero r4 2
spawn r7 r6 f1
sync
future h3 r4 f2
touch r6 h2
emit r5
fail 2147483647
ret r6
func 0
ret r0
func 4
set r0 -2147483648
jump 0
`

func TestEachOperation(t *testing.T) { // P4.1, P4.2
	if s, e := asm.Print(each); e != api.OK || s != eachText {
		t.Errorf("Print: %q, %d; want %q", s, e, eachText)
	}
	parsesTo(t, eachText, each)
}

func TestExample(t *testing.T) { // P4.2
	parsesTo(t, "func 0\nset r1 -5\nret r1", []code.Func{{Code: []code.Instr{{Op: 1, A: 1, K: -5}, {Op: 17, A: 1}}}})
}

func TestPrintRefuses(t *testing.T) { // P4.1: whatever the reason is, it is ErrForm
	ret := code.Instr{Op: 17}
	for _, p := range [][]code.Func{
		nil, {}, {{}}, make([]code.Func, 17),
		{{Arity: 5, Code: []code.Instr{ret}}},
		{{Code: make([]code.Instr, 65)}},
		{{Code: []code.Instr{{Op: 18}, ret}}}, {{Code: []code.Instr{{Op: -1}, ret}}},
		{{Code: []code.Instr{{Op: 17, A: 8}}}},
		{{Code: []code.Instr{{Op: 11, C: 1}, ret}}},
		{{Code: []code.Instr{{Op: 1}}}},
		{{Code: []code.Instr{ret}}, {Code: []code.Instr{{Op: 16, K: 15}}}},
	} {
		if s, e := asm.Print(p); e != api.ErrForm || s != "" {
			t.Errorf("Print(%v): %q, %d; want nothing, ErrForm", p, s, e)
		}
	}
}

func TestNoFunctions(t *testing.T) { // P4.2
	for _, text := range []string{"", "\n", "\n\n\n", " ", "#", "# func 0", "\t\r \n#\n", " # func x\n\n"} {
		parsesTo(t, text, nil)
	}
}

func TestWhatMayNotRunIsParsed(t *testing.T) { // P4.2
	parsesTo(t, "func 255", []code.Func{{Arity: 255}})
	parsesTo(t, "func 5\nfunc 0\nsync\n", []code.Func{{Arity: 5}, {Code: []code.Instr{{Op: 12}}}})
	parsesTo(t, "func 0\nadd r8 r200 r255", []code.Func{{Code: []code.Instr{{Op: 3, A: 8, B: 200, C: 255}}}})
	parsesTo(t, "func 0\nfuture h255 r255 f255", []code.Func{{Code: []code.Instr{{Op: 13, A: 255, B: 255, C: 255}}}})
	parsesTo(t, "func 0\nfail -1\njump -2147483648\nzero r9 99\nset r0 2147483647", []code.Func{{Code: []code.Instr{
		{Op: 16, K: -1}, {Op: 9, K: -1 << 31}, {Op: 10, A: 9, K: 99}, {Op: 1, K: 1<<31 - 1},
	}}})
}

func TestBlanksAndNotes(t *testing.T) { // P4.2, P4.3
	want := []code.Func{{Arity: 1, Code: []code.Instr{{Op: 10, A: 1, K: 1}, {Op: 17, A: 1}}}}
	for _, text := range []string{
		"func 1\nzero r1 1\nret r1", "func 1\nzero r1 1\nret r1\n", "func 1\r\nzero r1 1\r\nret r1\r\n",
		"  func\t1 \n\t\tzero  r1\r1\t\n ret \t r1  ", "\n\nfunc 1\n\nzero r1 1\n   \nret r1\n\n",
		"# a note\nfunc 1 # one\nzero r1 1# two\nret r1#", "func 1#\n#zero r2 2\nzero r1 1 ### # func 3\nret r1 #\xff\x00",
	} {
		parsesTo(t, text, want)
	}
}

func TestLinesThatAreNone(t *testing.T) { // P4.2
	for _, line := range []string{
		"bogus", "Sync", "syncs", "syn", "FUNC 0", "fun 0", "func0", "17", "r0", "-", ";", "func", "func 0 0",
		"func -1", "func 256", "func 00", "func 01", "func r1", "func f1", "func +1", "func 1.0", "func x", "func 0x1", "func 1_0", "func 99999999999", "func 4294967296", "func 18446744073709551616",
		"sync 1", "sync r0", "ret", "ret r0 r1", "ret 0", "ret h0", "ret f0", "ret R0", "ret r", "ret r-1", "ret r+1", "ret r00", "ret r01", "ret r256", "ret r0x", "ret r 0", "ret rr0", "ret -", "ret r99999999999", "ret r4294967296",
		"emit", "emit 5", "emit r0 r0", "move r0", "move r0 r1 r2", "move r0 h1", "move r0,r1", "add r0 r1", "add r0 r1 r2 r3", "add r0 r1 5",
		"set", "set r0", "set 5", "set r0 r1", "set r0 5 5", "set 5 r0", "set r0 +5", "set r0 -0", "set r0 00", "set r0 05", "set r0 -05", "set r0 -", "set r0 --5", "set r0 5-", "set r0 5.", "set r0 0x5", "set r0 1e3", "set r0 1_0",
		"set r0 2147483648", "set r0 -2147483649", "set r0 4294967296", "set r0 9999999999", "set r0 -9999999999", "set r0 10000000000", "set r0 -10000000000", "set r0 18446744073709551617", "set r0 0000000001", "set r0 -0000000001",
		"jump", "jump r1", "jump 1 2", "zero r0", "zero 1", "zero 1 r0", "zero r0 r1", "fail", "fail r0", "fail 16 16", "fail -0",
		"spawn r0 r1", "spawn r0 r1 r2", "spawn r0 r1 2", "spawn h0 r1 f2", "spawn r0 r1 f2 0", "spawn r0 r1 f256", "spawn r0 r1 f",
		"future r0 r1 f2", "future h0 r1", "future h0 h1 f2", "future h256 r1 f2", "future h0 r1 r2", "future h0 r1 f2 f3", "touch r0 r1", "touch h0 r1", "touch r0 h256", "touch r0 h", "touch r0",
		"sync\x0b", "sync\x0c", "sync\x00", "\xa0sync", "\u00a0sync", "sync\u2003", "\ufeffsync", "ret\x0br0", "ret r٣", "set r0 ５",
	} {
		refuses(t, "func 0\n"+line, 2, api.ErrForm)
		refuses(t, "func 0\nret r0\n\n# note\n \t"+line+" # note\nbogus\n", 5, api.ErrForm)
	}
}

func TestInstructionAheadOfFunctions(t *testing.T) { // P4.2
	refuses(t, "sync", 1, api.ErrForm)
	refuses(t, "\n# note\nret r0\nfunc 0\nret r0\n", 3, api.ErrForm)
	refuses(t, "bogus\nfunc 0\n", 1, api.ErrForm)
}

func TestHowLongATextMayBe(t *testing.T) { // P4.2
	text := "func 0\nret r0\n#"
	for n, want := range map[int]api.Errno{1<<16 - 1: api.OK, 1 << 16: api.OK, 1<<16 + 1: api.ErrLong, 1 << 20: api.ErrLong} {
		long := text + strings.Repeat("x", n-len(text))
		if want == api.OK {
			parsesTo(t, long, []code.Func{{Code: []code.Instr{{Op: 17}}}})
			continue
		}
		refuses(t, long, 0, want)
		refuses(t, "bogus\n"+long, 0, want)
	}
	refuses(t, strings.Repeat("\n", 1<<16-5)+"bogus", 1<<16-4, api.ErrForm)
}

func TestHowManyFunctions(t *testing.T) { // P4.2
	text := strings.Repeat("func 1\n", 255)
	if p, line, e := asm.Parse(text); e != api.OK || line != 0 || len(p) != 255 {
		t.Errorf("255 functions: %d, %d, %d", len(p), line, e)
	}
	refuses(t, text+"func 1", 256, api.ErrLong)
	refuses(t, "\n"+text+"#\n\nfunc 1\nbogus", 259, api.ErrLong)
	refuses(t, text+"bogus\nfunc 1", 256, api.ErrForm)
	refuses(t, text+"func 256", 256, api.ErrForm)
	refuses(t, text+"func", 256, api.ErrForm)
}

func TestHowManyInstructions(t *testing.T) { // P4.2
	text := "func 0\nret r0\nfunc 1\n" + strings.Repeat("sync\n", 255)
	if p, line, e := asm.Parse(text); e != api.OK || line != 0 || len(p) != 2 || len(p[1].Code) != 255 {
		t.Errorf("255 instructions: %d, %d, %d", len(p), line, e)
	}
	refuses(t, text+"ret r0", 259, api.ErrLong)
	refuses(t, text+"\nsync\nbogus", 260, api.ErrLong)
	refuses(t, text+"sync 1", 259, api.ErrForm)
	refuses(t, text+"bogus", 259, api.ErrForm)
	more := text + "func 2\n" + strings.Repeat("sync\n", 255)
	if p, line, e := asm.Parse(more); e != api.OK || line != 0 || len(p) != 3 {
		t.Errorf("255 instructions of two: %d, %d, %d", len(p), line, e)
	}
	refuses(t, more+"sync", 515, api.ErrLong)
}

func TestNumbersOfOneByte(t *testing.T) { // P4.2
	for n := range 300 {
		s := strconv.Itoa(n)
		text := "func " + s + "\nspawn r" + s + " r" + s + " f" + s + "\nfuture h" + s + " r0 f0"
		if n > 255 {
			refuses(t, text, 1, api.ErrForm)
			continue
		}
		parsesTo(t, text, []code.Func{{Arity: n, Code: []code.Instr{{Op: 11, A: n, B: n, C: n}, {Op: 13, A: n}}}})
	}
}

// A drawn program keeps its registers low, so that arguments have room.
func draw(r *rand.Rand) []code.Func {
	p := make([]code.Func, 1+r.Intn(16))
	for i := range p {
		p[i] = code.Func{Arity: r.Intn(5), Code: make([]code.Instr, 1+r.Intn(9))}
		for j := range p[i].Code {
			p[i].Code[j] = drawInstr(r, len(p), len(p[i].Code))
		}
		last := &p[i].Code[len(p[i].Code)-1]
		*last = []code.Instr{{Op: 17, A: r.Intn(8)}, {Op: 9}, {Op: 16, K: 16}}[r.Intn(3)]
	}
	return p
}

func drawInstr(r *rand.Rand, functions, places int) code.Instr {
	a, b, c, f, h, at := r.Intn(8), r.Intn(5), r.Intn(8), r.Intn(functions), r.Intn(4), r.Intn(places)
	switch op := 1 + r.Intn(17); op {
	case 1:
		return code.Instr{Op: op, A: a, K: int(int32(r.Uint32()) >> r.Intn(32))}
	case 2:
		return code.Instr{Op: op, A: a, B: b}
	case 9:
		return code.Instr{Op: op, K: at}
	case 10:
		return code.Instr{Op: op, A: a, K: at}
	case 11:
		return code.Instr{Op: op, A: a, B: b, C: f}
	case 12:
		return code.Instr{Op: op}
	case 13:
		return code.Instr{Op: op, A: h, B: b, C: f}
	case 14:
		return code.Instr{Op: op, A: a, B: h}
	case 15, 17:
		return code.Instr{Op: op, A: a}
	case 16:
		return code.Instr{Op: op, K: 16 + int(r.Uint32()>>2)}
	default:
		return code.Instr{Op: op, A: a, B: b, C: c}
	}
}

func TestPrintedIsParsedAsItWas(t *testing.T) { // P4.1, P4.3
	r := rand.New(rand.NewSource(7))
	for range 1000 {
		p := draw(r)
		if f, at, e := valid.Check(p); e != api.OK {
			t.Fatalf("%v may not run: %d, %d, %d", p, f, at, e)
		}
		s, e := asm.Print(p)
		if e != api.OK || !strings.HasSuffix(s, "\n") || strings.Contains(s, "  ") || strings.Contains(s, " \n") || strings.Contains(s, "\n\n") {
			t.Fatalf("Print(%v): %q, %d", p, s, e)
		}
		parsesTo(t, s, p)
		parsesTo(t, dressed(r, s), p)
	}
}

// dressed puts blanks, notes and empty lines where they may be.
func dressed(r *rand.Rand, text string) string {
	blanks := func(least int) string {
		var b strings.Builder
		for range least + r.Intn(3) {
			b.WriteByte(" \t\r"[r.Intn(3)])
		}
		return b.String()
	}
	var b strings.Builder
	for line := range strings.Lines(text) {
		words := strings.Fields(line)
		for i, word := range words {
			b.WriteString(blanks(min(i, 1)) + word)
		}
		b.WriteString(blanks(0) + []string{"", "#", "# func 1", "#ret r0 # "}[r.Intn(4)])
		b.WriteString([]string{"\n", "\n\n", "\n \t\n", "\n#sync\n"}[r.Intn(4)])
	}
	return b.String()
}

func TestTheGreatestProgram(t *testing.T) { // P4.1, P4.3
	p := make([]code.Func, api.MaxFuncs)
	for i := range p {
		p[i] = code.Func{Arity: 4, Code: make([]code.Instr, api.MaxCode)}
		for j := range p[i].Code {
			p[i].Code[j] = code.Instr{Op: 1, A: 7, K: -1 << 31}
		}
		p[i].Code[63] = code.Instr{Op: 17}
	}
	s, e := asm.Print(p)
	if e != api.OK {
		t.Fatalf("Print: %d", e)
	}
	parsesTo(t, s, p)
}

func TestWhatIsHandedInStays(t *testing.T) { // R4, R5
	p := slices.Clone(each)
	for i := range p {
		p[i].Code = slices.Clone(each[i].Code)
	}
	first, _ := asm.Print(p)
	if again, _ := asm.Print(p); again != first || !same(p, each) {
		t.Errorf("Print changed what it was handed, or its answer: %v, %q", p, again)
	}
	q, _, _ := asm.Parse(eachText)
	q[0].Code[0].K, q[1].Arity = 99, 9
	q[1].Code = append(q[1].Code, code.Instr{Op: 5})
	q[2].Code = append(q[2].Code[:1], code.Instr{Op: 5})
	parsesTo(t, eachText, each)
}

func FuzzParse(f *testing.F) { // P4.2, P4.3, R1
	for _, text := range []string{"", eachText, "func 0\nset r1 -5\nret r1", "sync", "func 0\n#\n\tret r0 # x", "func 00", "func 0\nret \xff"} {
		f.Add(text)
	}
	f.Fuzz(func(t *testing.T, text string) {
		p, line, e := asm.Parse(text)
		if e != api.OK {
			if len(p) != 0 || (line == 0) != (len(text) > 1<<16) || line > 1+strings.Count(text, "\n") {
				t.Errorf("Parse(%q): %v, %d, %d", text, p, line, e)
			}
			return
		}
		if _, e := code.Write(p); e != api.OK || line != 0 {
			t.Errorf("Parse(%q): %v, %d does not fit its bytes", text, p, line)
		}
		if s, e := asm.Print(p); e == api.OK {
			parsesTo(t, s, p)
		}
	})
}
