package sample_test

import (
	"reflect"
	"testing"

	"haymow/merge"
	"haymow/sample"
)

func TestNode(t *testing.T) {
	want := &merge.Node{
		Pieces: []merge.Piece{{Number: 5}, {Kid: true}, {Kid: true, Number: 1}, {Number: -6}},
		Kids:   []*merge.Node{{Pieces: []merge.Piece{{Number: 7}}, Value: -1}, {Fail: 33}},
		Value:  12,
	}
	const text = "(5 (7 =-1) (!33) -6 =12)"
	if n := sample.Node(text); !reflect.DeepEqual(n, want) {
		t.Errorf("%s", sample.Text(n))
	}
	if got := sample.Text(want); got != text {
		t.Errorf("%s", got)
	}
	if n := sample.Node("()"); !reflect.DeepEqual(n, &merge.Node{}) || sample.Text(n) != "(=0)" {
		t.Errorf("the empty node: %v", n)
	}
}

func TestNoNode(t *testing.T) {
	for _, text := range []string{"", "5", ")", "(5", "((5)"} {
		if n := sample.Node(text); n != nil {
			t.Errorf("%q: %v", text, n)
		}
	}
}
