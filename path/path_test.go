package path_test

import (
	"math"
	"math/rand"
	"slices"
	"strings"
	"testing"

	"haymow/api"
	"haymow/path"
)

// compared is Compare, put together from the chapter's words.
func compared(a, b []int) int {
	for i := 0; i < len(a) && i < len(b); i++ {
		if a[i] < b[i] {
			return -1
		}
		if a[i] > b[i] {
			return 1
		}
	}
	switch {
	case len(a) < len(b):
		return -1
	case len(a) > len(b):
		return 1
	}
	return 0
}

// all are the rows of at most length numbers, out of these ones.
func all(length int, numbers ...int) [][]int {
	rows := [][]int{nil}
	for i := 0; i < len(rows); i++ {
		if len(rows[i]) < length {
			for _, n := range numbers {
				rows = append(rows, append(slices.Clone(rows[i]), n))
			}
		}
	}
	return rows
}

func reads(t *testing.T, s string, want []int) {
	t.Helper()
	if p, e := path.Read(s); e != api.OK || !slices.Equal(p, want) {
		t.Errorf("Read(%q): %v, %d", s, p, e)
	}
}

func refuses(t *testing.T, s string, want api.Errno) {
	t.Helper()
	if p, e := path.Read(s); e != want || len(p) != 0 {
		t.Errorf("Read(%.80q): %v, %d; want %d", s, p, e, want)
	}
}

func TestExample(t *testing.T) { // P5.1
	for _, pair := range [][2]string{{"0.2", "0.2.1"}, {"0.2.1", "0.10"}, {"0.2", "0.10"}, {".", "0"}} {
		a, _ := path.Read(pair[0])
		b, _ := path.Read(pair[1])
		if path.Compare(a, b) != -1 || path.Compare(b, a) != 1 {
			t.Errorf("%s, %s: %d, %d", pair[0], pair[1], path.Compare(a, b), path.Compare(b, a))
		}
	}
}

func TestCompareAndUnder(t *testing.T) { // P5.1
	rows := all(3, math.MinInt, -1, 0, 1, 10, math.MaxInt)
	for _, a := range rows {
		for _, b := range rows {
			if got := path.Compare(a, b); got != compared(a, b) {
				t.Fatalf("Compare(%v, %v): %d", a, b, got)
			}
			under := len(a) >= len(b) && compared(a[:len(b)], b) == 0
			if got := path.Under(a, b); got != under {
				t.Fatalf("Under(%v, %v): %t", a, b, got)
			}
		}
	}
}

func TestEmptyIsNil(t *testing.T) { // P5.1, R3
	if path.Compare(nil, []int{}) != 0 || path.Compare([]int{}, nil) != 0 || !path.Under(nil, []int{}) || !path.Under([]int{}, nil) {
		t.Error("nil and the empty row are not the same")
	}
	if path.Text(nil) != "." || path.Text([]int{}) != "." {
		t.Errorf("Text: %q, %q", path.Text(nil), path.Text([]int{}))
	}
}

func TestLongRows(t *testing.T) { // P5.1
	long := make([]int, 1000)
	longer := append(slices.Clone(long), 0)
	greater := append(slices.Clone(long[:999]), 1)
	if path.Compare(long, longer) != -1 || path.Compare(longer, greater) != -1 || path.Compare(greater, long) != 1 || path.Compare(long, long) != 0 {
		t.Error("Compare of long rows")
	}
	if !path.Under(longer, long) || path.Under(long, longer) || path.Under(greater, long) || !path.Under(long, long) {
		t.Error("Under of long rows")
	}
}

func TestText(t *testing.T) { // P5.1
	for want, p := range map[string][]int{".": nil, "0": {0}, "0.2.1": {0, 2, 1}, "10.0.999999": {10, 0, 999999}} {
		if got := path.Text(p); got != want {
			t.Errorf("Text(%v): %q", p, got)
		}
		reads(t, want, p)
	}
}

func TestTextsThatAreNone(t *testing.T) { // P5.1
	for _, s := range []string{
		"", "..", "...", ".0", "0.", "0..1", "1.2.", ".1.2", "00", "01", "0.01", "1.00",
		"1000000", "0000001", "1.1234567", "-1", "-0", "+1", "0.-1", " ", " 1", "1 ", "1. 2", "x", "1x", "0x1", "1,2",
		"1/2", "1:2", "1_0", "１", "\x00", "1\n", "\xff",
	} {
		refuses(t, s, api.ErrForm)
	}
}

func TestHowLongAPathMayBe(t *testing.T) { // P5.1
	long := strings.Repeat("7.", api.MaxDepth-1) + "999999"
	want := slices.Repeat([]int{7}, api.MaxDepth)
	want[api.MaxDepth-1] = 999999
	reads(t, long, want)
	refuses(t, long+".0", api.ErrLong)
	refuses(t, long+strings.Repeat(".0", 100000), api.ErrLong)
	for _, wrong := range []string{".", ".00", ".1000000", ".x", "..0"} {
		refuses(t, long+wrong, api.ErrForm)
		refuses(t, long+".0.0.0"+wrong, api.ErrForm)
		refuses(t, long+".0.0.0"+wrong+".5", api.ErrForm)
	}
}

func TestTheOrderIsOne(t *testing.T) { // P5.2
	rows := all(3, 0, 1, 2, 10)
	for _, a := range rows {
		for _, b := range rows {
			if path.Compare(a, b) != -path.Compare(b, a) || (path.Compare(a, b) == 0) != slices.Equal(a, b) {
				t.Fatalf("%v, %v", a, b)
			}
			for _, c := range rows {
				if path.Compare(a, b) < 0 && path.Compare(b, c) < 0 && path.Compare(a, c) >= 0 {
					t.Fatalf("%v, %v, %v", a, b, c)
				}
			}
		}
	}
}

func TestWhatIsUnderAPathStandsTogether(t *testing.T) { // P5.2
	rows := all(4, 0, 1, 2, 10)
	slices.SortFunc(rows, path.Compare)
	for _, p := range rows {
		turns := 0
		for i, q := range rows {
			if path.Under(q, p) && (i == 0 || !path.Under(rows[i-1], p)) {
				turns++
			}
		}
		if turns != 1 {
			t.Fatalf("%v: in %d places", p, turns)
		}
	}
}

func TestWhatIsToldIsReadAsItWas(t *testing.T) { // P5.2
	r := rand.New(rand.NewSource(5))
	for range 5000 {
		p := make([]int, r.Intn(api.MaxDepth+1))
		for i := range p {
			p[i] = r.Intn([]int{2, 20, 1000000}[r.Intn(3)])
		}
		kept := slices.Clone(p)
		s := path.Text(p)
		reads(t, s, kept)
		if !slices.Equal(p, kept) { // R4
			t.Fatalf("Text changed %v", kept)
		}
	}
}

func FuzzRead(f *testing.F) { // P5.1, P5.2, R1
	for _, s := range []string{".", "0", "0.2.10", "01", "1..2", strings.Repeat("1.", 40)} {
		f.Add(s)
	}
	f.Fuzz(func(t *testing.T, s string) {
		p, e := path.Read(s)
		switch {
		case e == api.OK && path.Text(p) != s:
			t.Errorf("%q: %v", s, p)
		case e == api.OK && len(p) > api.MaxDepth:
			t.Errorf("%q: %d numbers", s, len(p))
		case e != api.OK && len(p) > 0:
			t.Errorf("%q: %v beside %d", s, p, e)
		}
	})
}
