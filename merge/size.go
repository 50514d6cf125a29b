package merge

import "haymow/api"

// longestRow is how many nodes may stand one below the other, the first one
// among them.
const longestRow = api.MaxDepth + 1

// size is how many nodes stand one below the other, from a node on, and how
// many nodes and numbers there are with all below.
type size struct{ row, nodes, numbers int }

// sizes are those of the nodes that may be and were looked at: a node that
// stands in many places is looked at once, or a few nodes could take for ever.
type sizes map[*Node]size

// of tells a node's size, and whether it may be, where a row of at most room
// nodes may begin with it.
func (known sizes) of(n *Node, room int) (size, bool) {
	if n == nil || room == 0 {
		return size{}, false
	}
	if s, before := known[n]; before {
		return s, s.row <= room
	}
	numbers, ok := n.numbers()
	if !ok {
		return size{}, false
	}
	s := size{nodes: 1, numbers: numbers}
	for _, kid := range n.Kids {
		below, ok := known.of(kid, room-1)
		if !ok {
			return size{}, false
		}
		s = size{max(s.row, below.row), s.nodes + below.nodes, s.numbers + below.numbers}
	}
	s.row++
	known[n] = s
	return s, true
}

// numbers tells how many numbers a node tells itself, and whether it may be,
// its kids aside.
func (n *Node) numbers() (int, bool) {
	many, kids := 0, 0
	for _, p := range n.Pieces {
		switch {
		case !p.Kid:
			many++
		case p.Number != int64(kids):
			return 0, false
		default:
			kids++
		}
	}
	return many, kids == len(n.Kids) && (n.Fail == api.FailNone || n.Value == 0)
}
