package index

import (
	"hoard/bitrow"
	"hoard/codes"
)

// Tree is the column, each byte as its code, the codes' bits laid apart by
// what stands ahead of them in the code. It stands on counted bits: how many
// ones are ahead in a node tells where to go on in the next one.
type Tree struct {
	bitrow.Counted
	table   codes.Table
	nodes   []node
	weights [256]int
	total   int
}

// node is a beginning of codes, depth bits long, which so many bytes of the
// column have; their next bits stand in the row from one place on.
type node struct {
	depth, from, size int
	branches          [2]branch
}

// branch is what goes on behind a bit: a whole code's byte, or a node. With
// neither nothing goes on there: no branch goes back to the first node.
type branch struct {
	whole bool
	value byte
	node  int
}

// shape tells the nodes by their depth, those of one depth by their numbers.
// The lengths must be whole. Then, in that order too, the codes of a depth
// come ahead of what is longer.
func shape(lengths codes.Lengths) []node {
	left := lengths.Order()
	nodes := []node{{}}
	for i := 0; i < len(nodes); i++ {
		depth := nodes[i].depth + 1
		for side := range 2 {
			switch {
			case len(left) == 0:
				// There is one byte alone, or none: nothing goes on here.
			case lengths[left[0]] == depth:
				nodes[i].branches[side] = branch{whole: true, value: left[0]}
				left = left[1:]
			default:
				nodes[i].branches[side] = branch{node: len(nodes)}
				nodes = append(nodes, node{depth: depth})
			}
		}
	}
	return nodes
}

// MakeTree makes the row from the column, whose bytes all have a code.
func MakeTree(column []byte, lengths codes.Lengths) Tree {
	table := codes.Assign(lengths)
	nodes := shape(lengths)
	columns := make([][]byte, len(nodes))
	columns[0] = column
	var row bitrow.Writer
	for i, here := range nodes {
		for _, b := range columns[i] {
			side := table[b].Bit(here.depth)
			row.Add(side)
			if next := here.branches[side]; !next.whole {
				columns[next.node] = append(columns[next.node], b)
			}
		}
	}
	tree := Tree{Counted: bitrow.Count(row.Row()), table: table, nodes: nodes, total: len(column)}
	tree.lay()
	return tree
}

// ReadTree reads the row of a column of total bytes from the front of some
// bytes. It is refused where it runs past them, or no codes have such lengths.
func ReadTree(bytes string, total int, lengths codes.Lengths) (Tree, bool) {
	if !lengths.Whole() {
		return Tree{}, false
	}
	// How long the row is, only its bits tell; but not longer than this.
	most := min(8*len(bytes), total*lengths.Longest())
	tree := Tree{Counted: bitrow.Count(bitrow.Read(bytes, most)), table: codes.Assign(lengths), nodes: shape(lengths), total: total}
	length, fits := tree.lay()
	if !fits {
		return Tree{}, false
	}
	tree.Counted = bitrow.Count(bitrow.Read(bytes, length))
	return tree, true
}

// lay tells each node where its bits stand, and the tree how often it has each
// byte; and how many bits all nodes have. It does not fit if they are more than
// the row has, or bits go on where nothing does.
func (t *Tree) lay() (length int, fits bool) {
	t.nodes[0].size = t.total
	for i := range t.nodes {
		here := &t.nodes[i]
		here.from = length
		length += here.size
		if length > t.Len() {
			return 0, false
		}
		ones := t.Ones(length) - t.Ones(here.from)
		if !t.share(here.branches[0], here.size-ones) || !t.share(here.branches[1], ones) {
			return 0, false
		}
	}
	return length, true
}

// share gives a branch so many bytes of the column.
func (t *Tree) share(to branch, size int) bool {
	switch {
	case to.whole:
		t.weights[to.value] = size
	case to.node > 0:
		t.nodes[to.node].size = size
	default:
		return size == 0
	}
	return true
}

// Total tells how many bytes the column has.
func (t *Tree) Total() int { return t.total }

// Byte tells a byte of the column, by its number from 0 on, and how many of its
// kind stand ahead of it there.
func (t *Tree) Byte(at int) (b byte, ahead int) {
	var here branch
	for !here.whole {
		side := t.Bit(t.nodes[here.node].from + at)
		here, at = t.follow(here, side, at)
	}
	return here.value, at
}

// Ahead tells how many bytes of a kind stand ahead of a byte of the column; at
// the column's end, how many it has.
func (t *Tree) Ahead(b byte, at int) int {
	code := t.table[b]
	if code.Length == 0 {
		return 0
	}
	var here branch
	for depth := range code.Length {
		here, at = t.follow(here, code.Bit(depth), at)
	}
	return at
}

// follow goes on behind a node's bits of one side, and tells how many of them
// stand ahead of a bit of that node: what goes on has these ahead of it.
func (t *Tree) follow(here branch, side, at int) (branch, int) {
	from := t.nodes[here.node].from
	ahead := t.Ones(from+at) - t.Ones(from)
	if side == 0 {
		ahead = at - ahead
	}
	return t.nodes[here.node].branches[side], ahead
}
