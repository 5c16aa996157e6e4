// Package index holds the rows of bits that an archive is built up from.
package index

import (
	"sort"

	"hoard/bitrow"
)

// Ends is where the files end: of each end the low bits, then one row in which
// the ones tell the high bits: so it stands on counted bits.
type Ends struct {
	bitrow.Counted
	files int
	low   int
}

// MakeEnds makes the row from the ends of the files, of which all together
// have total bytes.
func MakeEnds(ends []int, total int) Ends {
	low := lowWidth(len(ends), total)
	var row bitrow.Writer
	for _, end := range ends {
		row.AddNumber(end, low)
	}
	high := row.Len()
	row.Grow(highLength(len(ends), total, low))
	for i, end := range ends {
		row.Set(high + end>>low + i)
	}
	return Ends{bitrow.Count(row.Row()), len(ends), low}
}

// ReadEnds reads the row from the front of some bytes. It is refused where it
// has not one end for each file, in order, the last one being the total.
func ReadEnds(bytes string, files, total int) (Ends, bool) {
	low := lowWidth(files, total)
	length := files*low + highLength(files, total, low)
	if bitrow.Size(length) > len(bytes) {
		return Ends{}, false
	}
	ends := Ends{bitrow.Count(bitrow.Read(bytes, length)), files, low}
	if !ends.cover(total) {
		return Ends{}, false
	}
	return ends, true
}

// lowWidth tells how many bits of an end are low ones.
func lowWidth(files, total int) int {
	// Without files no width would ever be too great.
	if files == 0 {
		return 0
	}
	width := 0
	for files<<(width+1) <= total {
		width++
	}
	return width
}

// highLength tells how many bits stand behind the low ones.
func highLength(files, total, low int) int { return files + total>>low + 1 }

// cover tells whether the files stand one behind the other up to the total.
func (e *Ends) cover(total int) bool {
	if e.Ones(e.Len())-e.Ones(e.high()) != e.files {
		return false
	}
	ahead := 0
	for i := range e.files {
		from, to := e.File(i)
		if to < from {
			return false
		}
		ahead = to
	}
	return ahead == total
}

// File tells where in the text a file begins and ends.
func (e *Ends) File(number int) (from, to int) {
	if number > 0 {
		from = e.end(number - 1)
	}
	return from, e.end(number)
}

// Holder tells which file has the byte of the text at a place. It ends behind
// that place, and no file ahead of it does: so none that is empty is told.
func (e *Ends) Holder(place int) int {
	return sort.Search(e.files, func(i int) bool { return e.end(i) > place })
}

func (e *Ends) end(number int) int {
	one := e.One(e.Ones(e.high()) + number)
	above := one - e.high() - number
	return above<<e.low | e.Number(number*e.low, e.low)
}

// high tells where the bits behind the low ones begin.
func (e *Ends) high() int { return e.files * e.low }
