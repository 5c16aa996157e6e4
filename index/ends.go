// Package index makes the rows of bits that an archive is built up from.
package index

import "hoard/bitrow"

// Ends is where the files end: of each end the low bits, then one row in which
// the ones tell the high bits.
type Ends struct {
	bitrow.Bits
}

// MakeEnds makes the row from the ends of the files, of which all together
// have total bytes.
func MakeEnds(ends []int, total int) Ends {
	low := lowWidth(len(ends), total)
	var row Ends
	for _, end := range ends {
		row.AddNumber(end, low)
	}
	high := row.Len()
	row.Grow(len(ends) + total>>low + 1)
	for i, end := range ends {
		row.Set(high + end>>low + i)
	}
	return row
}

// lowWidth tells how many bits of an end are low ones.
func lowWidth(files, total int) int {
	// Without files no width would ever be too great.
	if files == 0 {
		return 0
	}
	width := 0
	for files<<(width+1) <= total {
		width++
	}
	return width
}
