package epoch_test

import (
	"math"
	"slices"
	"testing"

	"haymow/api"
	"haymow/epoch"
)

func made(t *testing.T, workers int) *epoch.Epochs {
	t.Helper()
	x, e := epoch.New(workers)
	if x == nil || e != api.OK {
		t.Fatalf("New(%d): nil is %v, %d", workers, x == nil, e)
	}
	return x
}

func retires(t *testing.T, x *epoch.Epochs, w int, things ...int) {
	t.Helper()
	for _, thing := range things {
		if e := x.Retire(w, thing); e != api.OK {
			t.Errorf("Retire(%d, %d): %d", w, thing, e)
		}
	}
}

// announces asks what the epoch is behind the announcing, and what has gone.
func announces(t *testing.T, x *epoch.Epochs, w, now int, gone ...int) {
	t.Helper()
	got, e := x.Announce(w)
	if e != api.OK || x.Now() != now || !slices.Equal(got, gone) {
		t.Errorf("Announce(%d): %v, %d, at %d; want %v, at %d", w, got, e, x.Now(), gone, now)
	}
}

func limbo(t *testing.T, x *epoch.Epochs, want ...int) {
	t.Helper()
	for w, many := range want {
		if got := x.Limbo(w); got != many {
			t.Errorf("Limbo(%d): %d; want %d", w, got, many)
		}
	}
}

func TestExample(t *testing.T) { // example 1
	x := made(t, 1)
	retires(t, x, 0, 9)
	announces(t, x, 0, 1)
	limbo(t, x, 1)
	announces(t, x, 0, 2, 9)
	limbo(t, x, 0)
}

func TestNew(t *testing.T) { // P11.1
	for _, workers := range []int{1, 2, 63, 64} {
		x := made(t, workers)
		if x.Now() != 0 {
			t.Errorf("of %d workers the epoch is %d at first", workers, x.Now())
		}
		for w := range workers {
			if x.Limbo(w) != 0 || x.Retire(w, 5) != api.OK || x.Limbo(w) != 1 {
				t.Errorf("of %d workers the worker %d is none", workers, w)
			}
		}
		if x.Retire(workers, 5) != api.ErrArg {
			t.Errorf("of %d workers there is a worker %d", workers, workers)
		}
	}
	for _, workers := range []int{0, -1, 65, 1000, math.MinInt, math.MaxInt} {
		if x, e := epoch.New(workers); x != nil || e != api.ErrArg {
			t.Errorf("New(%d): nil is %v, %d; want nil, ErrArg", workers, x == nil, e)
		}
	}
}

func TestNoSuchWorker(t *testing.T) { // P11.1
	x := made(t, 2)
	retires(t, x, 0, 3)
	announces(t, x, 0, 0)
	for _, w := range []int{-1, 2, 3, 64, math.MinInt, math.MaxInt} {
		if l, e := x.Announce(w); len(l) != 0 || e != api.ErrArg {
			t.Errorf("Announce(%d): %v, %d", w, l, e)
		}
		if e := x.Retire(w, 1); e != api.ErrArg {
			t.Errorf("Retire(%d, 1): %d", w, e)
		}
		if x.Limbo(w) != 0 {
			t.Errorf("Limbo(%d): %d", w, x.Limbo(w))
		}
	}
	if x.Now() != 0 {
		t.Errorf("the epoch is %d", x.Now())
	}
	limbo(t, x, 1, 0)
}

func TestNobodyHasAnnouncedAtFirst(t *testing.T) { // P11.1
	for _, workers := range []int{2, 3, 64} {
		x := made(t, workers)
		for w := workers - 1; w > 0; w-- {
			announces(t, x, w, 0)
			announces(t, x, w, 0)
		}
		announces(t, x, 0, 1)
		announces(t, x, 0, 1)
		for w := workers - 1; w > 1; w-- {
			announces(t, x, w, 1)
		}
		announces(t, x, 1, 2)
	}
}

func TestOneWorkerRaisesTheEpochEachTime(t *testing.T) { // P11.1
	x := made(t, 1)
	for i := range 100 {
		retires(t, x, 0, i)
		if i == 0 {
			announces(t, x, 0, 1)
		} else {
			announces(t, x, 0, i+1, i-1)
		}
		limbo(t, x, 1)
	}
}

func TestOnlyTheOwnThingsGo(t *testing.T) { // P11.1
	x := made(t, 2)
	retires(t, x, 0, 10, 11)
	retires(t, x, 1, 20)
	announces(t, x, 1, 0)
	announces(t, x, 0, 1)
	announces(t, x, 0, 1)
	limbo(t, x, 2, 1)
	announces(t, x, 1, 2, 20) // it is two above behind its own announcing
	limbo(t, x, 2, 0)
	announces(t, x, 0, 2, 10, 11)
	announces(t, x, 0, 2)
	limbo(t, x, 0, 0)
}

func TestThingsGoInOrder(t *testing.T) { // P11.1
	x := made(t, 1)
	retires(t, x, 0, 5, -7, 5, 0, math.MaxInt)
	announces(t, x, 0, 1)
	retires(t, x, 0, math.MinInt, 5)
	announces(t, x, 0, 2, 5, -7, 5, 0, math.MaxInt)
	retires(t, x, 0, 1)
	limbo(t, x, 3)
	announces(t, x, 0, 3, math.MinInt, 5)
	announces(t, x, 0, 4, 1)
	limbo(t, x, 0)
}

func TestSomeGoAndSomeStay(t *testing.T) { // P11.1
	x := made(t, 2)
	retires(t, x, 0, 1, 2)
	announces(t, x, 0, 0)
	announces(t, x, 1, 1)
	retires(t, x, 0, 3)
	announces(t, x, 1, 1)
	announces(t, x, 0, 2, 1, 2)
	limbo(t, x, 1, 0)
	retires(t, x, 0, 4)
	announces(t, x, 0, 2)
	announces(t, x, 1, 3)
	limbo(t, x, 2, 0)
	announces(t, x, 0, 3, 3)
	announces(t, x, 1, 4)
	announces(t, x, 0, 4, 4)
}

func TestWhatIsToldIsNew(t *testing.T) { // R4
	x := made(t, 1)
	retires(t, x, 0, 1, 2, 3)
	announces(t, x, 0, 1)
	retires(t, x, 0, 4, 5)
	first, _ := x.Announce(0)
	for i := range first {
		first[i] = 99
	}
	first = append(first, 98, 98, 98)
	second, _ := x.Announce(0)
	if !slices.Equal(second, []int{4, 5}) {
		t.Errorf("what was told ahead is seen behind: %v", second)
	}
	if !slices.Equal(first, []int{99, 99, 99, 98, 98, 98}) {
		t.Errorf("what was told changes: %v", first)
	}
}

func TestEpochsAreApart(t *testing.T) { // R5
	a, b := made(t, 2), made(t, 2)
	retires(t, a, 0, 1)
	announces(t, a, 0, 0)
	announces(t, a, 1, 1)
	if b.Now() != 0 || b.Limbo(0) != 0 {
		t.Errorf("others' epoch is %d, limbo %d", b.Now(), b.Limbo(0))
	}
	announces(t, b, 1, 0)
}

func TestNil(t *testing.T) { // P11.1
	for _, x := range []*epoch.Epochs{nil, {}} { // the second one has no workers
		for _, w := range []int{-1, 0, 1, math.MaxInt} {
			if l, e := x.Announce(w); len(l) != 0 || e != api.ErrArg {
				t.Errorf("Announce(%d): %v, %d", w, l, e)
			}
			if e := x.Retire(w, 1); e != api.ErrArg {
				t.Errorf("Retire(%d, 1): %d", w, e)
			}
			if x.Limbo(w) != 0 {
				t.Errorf("Limbo(%d): %d", w, x.Limbo(w))
			}
		}
		if x.Now() != 0 {
			t.Errorf("the epoch is %d", x.Now())
		}
	}
}
