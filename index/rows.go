package index

// Rows goes from row to row. It stands on the tree.
type Rows struct {
	Tree
	root   int
	firsts [256]int
}

// MakeRows makes what goes from row to row out of the column and its root,
// which is one of the rows.
func MakeRows(tree Tree, root int) Rows {
	rows := Rows{Tree: tree, root: root}
	// The empty ending comes ahead of those that begin with a byte.
	first := 1
	for b, weight := range tree.weights {
		rows.firsts[b] = first
		first += weight
	}
	return rows
}

// Longer tells a row's byte, and the row whose ending is longer by it. The
// root's row has neither: from there it goes round to the empty ending's, so
// that every row has a next one, whatever bytes the column came from.
func (r *Rows) Longer(row int) (byte, int) {
	if row == r.root {
		return 0, 0
	}
	b, ahead := r.Byte(r.column(row))
	return b, r.firsts[b] + ahead
}

// Bounds tells, of the rows from one on up to another, which rows' endings are
// theirs with a byte ahead: these too stand one behind the other.
func (r *Rows) Bounds(b byte, from, to int) (int, int) {
	first := r.firsts[b]
	return first + r.Ahead(b, r.column(from)), first + r.Ahead(b, r.column(to))
}

// column tells how many bytes of the column stand ahead of a row's.
func (r *Rows) column(row int) int {
	if row > r.root {
		return row - 1
	}
	return row
}
