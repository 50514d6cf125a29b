package sample

import (
	"strconv"
	"strings"

	"haymow/merge"
)

// Node is the one of a text, for tests that look at nodes: (5 (7 =1) (!33) 6
// =12) tells 5, has two kids, and tells 6; of the kids the one tells 7 and ends
// with 1, the other fails with 33. Of another text it is nil, or any node.
func Node(text string) *merge.Node {
	var row []*merge.Node
	for _, word := range strings.Fields(strings.NewReplacer("(", " ( ", ")", " ) ").Replace(text)) {
		if word == "(" {
			row = append(row, &merge.Node{})
			continue
		}
		if len(row) == 0 {
			return nil
		}
		last := row[len(row)-1]
		switch {
		case word != ")":
			add(last, word)
		case len(row) == 1:
			return last
		default:
			row = row[:len(row)-1]
			adopt(row[len(row)-1], last)
		}
	}
	return nil
}

func add(n *merge.Node, word string) {
	number, _ := strconv.ParseInt(strings.TrimLeft(word, "=!"), 10, 64)
	switch word[0] {
	case '=':
		n.Value = number
	case '!':
		n.Fail = int(number)
	default:
		n.Pieces = append(n.Pieces, merge.Piece{Number: number})
	}
}

func adopt(n, kid *merge.Node) {
	n.Pieces = append(n.Pieces, merge.Piece{Kid: true, Number: int64(len(n.Kids))})
	n.Kids = append(n.Kids, kid)
}

// Text is that of a node that may be: one node has one text alone.
func Text(n *merge.Node) string {
	var words []string
	for _, p := range n.Pieces {
		if p.Kid {
			words = append(words, Text(n.Kids[p.Number]))
		} else {
			words = append(words, strconv.FormatInt(p.Number, 10))
		}
	}
	if n.Fail != 0 {
		words = append(words, "!"+strconv.Itoa(n.Fail))
	} else {
		words = append(words, "="+strconv.FormatInt(n.Value, 10))
	}
	return "(" + strings.Join(words, " ") + ")"
}
