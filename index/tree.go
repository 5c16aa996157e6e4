package index

import (
	"hoard/bitrow"
	"hoard/codes"
)

// Tree is the column, each byte as its code, the codes' bits laid apart by
// what stands ahead of them in the code.
type Tree struct {
	bitrow.Bits
}

// node is the bytes of the column whose codes share their first depth bits.
type node struct {
	column []byte
	depth  int
}

// MakeTree makes the row from the column. Nodes are taken in the order in which
// they were found: that is by depth, and in one depth by number.
func MakeTree(column []byte, table *codes.Table) Tree {
	var row Tree
	waiting := []node{{column, 0}}
	for len(waiting) > 0 {
		here := waiting[0]
		waiting = waiting[1:]
		for _, child := range row.addNode(here, table) {
			if len(child.column) > 0 {
				waiting = append(waiting, child)
			}
		}
	}
	return row
}

// addNode adds the bits of a node, and tells what goes on behind a 0 and behind
// a 1. A byte whose code is at its end goes on in neither.
func (t *Tree) addNode(n node, table *codes.Table) [2]node {
	next := [2]node{{depth: n.depth + 1}, {depth: n.depth + 1}}
	for _, b := range n.column {
		code := table[b]
		side := code.Bit(n.depth)
		t.Add(side == 1)
		if code.Length > n.depth+1 {
			next[side].column = append(next[side].column, b)
		}
	}
	return next
}
