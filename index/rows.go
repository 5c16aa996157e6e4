package index

// Rows goes from row to row. It stands on the tree.
type Rows struct {
	Tree
	root   int
	firsts [256]int
}

// MakeRows makes what goes from row to row out of the column and its root,
// which is one of the rows.
func MakeRows(tree Tree, root int) Rows {
	rows := Rows{Tree: tree, root: root}
	// The empty ending comes ahead of those that begin with a byte.
	first := 1
	for b, weight := range tree.weights {
		rows.firsts[b] = first
		first += weight
	}
	return rows
}

// Longer tells a row's byte, and the row whose ending is longer by it. The
// root's row has neither: from there it goes round to the empty ending's, so
// that every row has a next one, whatever bytes the column came from.
func (r *Rows) Longer(row int) (byte, int) {
	if row == r.root {
		return 0, 0
	}
	if row > r.root {
		row--
	}
	b, ahead := r.Byte(row)
	return b, r.firsts[b] + ahead
}
