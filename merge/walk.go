package merge

// place is a node that is being merged, and its next piece.
type place struct {
	node *Node
	next int
}

// kid is the one that the piece ahead of the next one names.
func (at place) kid() int { return int(at.node.Pieces[at.next-1].Number) }

// walk merges a node that may be, up to the first failure, and tells closures
// what it meets. To go into a node is enter's choice: what that node tells it
// may know already. Where a node fails, the row is that of the nodes that stand
// one below the other there, the one that fails the last of them; else it is
// empty.
func walk(n *Node, tell func(int64), enter func(*Node) bool, leave func(*Node)) (row []place) {
	if enter(n) {
		row = append(row, place{node: n})
	}
nodes:
	for len(row) > 0 {
		at := &row[len(row)-1]
		for at.next < len(at.node.Pieces) {
			piece := at.node.Pieces[at.next]
			at.next++
			if !piece.Kid {
				tell(piece.Number)
			} else if kid := at.node.Kids[piece.Number]; enter(kid) {
				row = append(row, place{node: kid})
				continue nodes
			}
		}
		if at.node.Fail != 0 {
			break nodes
		}
		leave(at.node)
		row = row[:len(row)-1]
	}
	return row
}

// path is that of the last node of a row.
func path(row []place) (p []int) {
	for i := 0; i+1 < len(row); i++ {
		p = append(p, row[i].kid())
	}
	return p
}
