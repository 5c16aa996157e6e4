// Package walk goes from row to row, by steps that are handed to it: what these
// stand on, it does not know.
package walk

// Step tells a row's byte, and the row whose ending is longer by it.
type Step func(row int) (byte, int)

// Bounds tells, of the rows from one on up to another, which rows' endings are
// theirs with a byte ahead: from which row on, and up to which.
type Bounds func(b byte, from, to int) (int, int)

// Told tells a row's place, if that is told.
type Told func(row int) (place int, told bool)

// Near tells a row whose place is known, not ahead of a place, and that place.
type Near func(place int) (row, at int)

// Back tells the bytes that stand ahead of a row's ending, as many as asked for.
func Back(step Step, row, count int) []byte {
	bytes := make([]byte, count)
	for i := count - 1; i >= 0; i-- {
		bytes[i], row = step(row)
	}
	return bytes
}

// Find tells which of so many rows have endings that begin with a pattern: from
// which row on, and up to which. It ends where no row is left, however much of
// the pattern is.
func Find(bounds Bounds, rows int, pattern string) (from, to int) {
	from, to = 0, rows
	for i := len(pattern) - 1; i >= 0 && from < to; i-- {
		from, to = bounds(pattern[i], from, to)
	}
	return from, to
}

// Place tells a row's place: it goes on to a row whose place is told. The place
// 0, to which every row leads, must be: so it ends.
func Place(step Step, told Told, row int) int {
	for steps := 0; ; steps++ {
		if place, ok := told(row); ok {
			return place + steps
		}
		_, row = step(row)
	}
}

// Row tells a place's row: it goes there from a row whose place is known.
func Row(step Step, near Near, place int) int {
	row, at := near(place)
	for ; at > place; at-- {
		_, row = step(row)
	}
	return row
}
