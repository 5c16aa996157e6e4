package bitrow

import (
	"math/bits"
	"sort"
)

// Counted is bits with counts of ones: of each byte, how many ones stand ahead
// of it, and last of all how many there are.
type Counted struct {
	Bits
	counts []int
}

// Count counts the ones of a row.
func Count(row Bits) Counted {
	counts := make([]int, len(row.bytes)+1)
	for i := range len(row.bytes) {
		counts[i+1] = counts[i] + bits.OnesCount8(row.bytes[i])
	}
	return Counted{row, counts}
}

// Ones tells how many ones stand ahead of a bit; at the row's end, how many it has.
func (c *Counted) Ones(at int) int {
	ones := c.counts[at/8]
	if ahead := at % 8; ahead > 0 {
		ones += bits.OnesCount8(c.bytes[at/8] << (8 - ahead))
	}
	return ones
}

// One tells where a one that is there stands, by its number from 0 on.
func (c *Counted) One(number int) int {
	byteAt := sort.Search(len(c.bytes), func(i int) bool { return c.counts[i+1] > number })
	at := byteAt * 8
	for c.Bit(at) == 0 || c.Ones(at) < number {
		at++
	}
	return at
}
