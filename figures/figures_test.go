package figures_test

import (
	"testing"

	"haymow/figures"
)

func TestNatural(t *testing.T) {
	for text, want := range map[string]int{"0": 0, "7": 7, "10": 10, "999": 999, "100": 100} {
		if n, ok := figures.Natural(text, 3); !ok || n != want {
			t.Errorf("%q: %d, %t", text, n, ok)
		}
	}
	if n, ok := figures.Natural("999999999999999999", 18); !ok || n != 999999999999999999 {
		t.Errorf("18 figures: %d, %t", n, ok)
	}
}

func TestNoNatural(t *testing.T) {
	for _, text := range []string{"", "00", "01", "1000", "-1", "+1", "1_0", " 1", "1 ", "1.", "x", "/", ":", "1/", "1:", "0x1", "１", "\xff"} {
		if n, ok := figures.Natural(text, 3); ok || n != 0 {
			t.Errorf("%q: %d, %t", text, n, ok)
		}
	}
}
