// Package bitrow holds rows of bits as they stand in an archive's bytes.
package bitrow

import "strings"

// Bits is a row of plain bits: the first is the lowest of the first byte.
// A row that was made is never written into, so what is counted in it stays right.
type Bits struct {
	bytes  string
	length int
}

// Read reads a row of so many bits, which must be there, from the front of
// some bytes. It copies them: the row goes on when they are gone.
func Read(bytes string, length int) Bits {
	return Bits{strings.Clone(bytes[:Size(length)]), length}
}

// Size tells how many bytes a row of so many bits has.
func Size(length int) int { return (length + 7) / 8 }

// Len tells how many bits there are.
func (b *Bits) Len() int { return b.length }

// Packed tells the bits in bytes.
func (b *Bits) Packed() string { return b.bytes }

// Bit tells a bit that is there, 0 or 1, by its number from 0 on.
func (b *Bits) Bit(at int) int { return int(b.bytes[at/8] >> (at % 8) & 1) }

// Number tells the number that stands in the bits from one on, the lowest first.
func (b *Bits) Number(at, width int) int {
	number := 0
	for i := range width {
		number |= b.Bit(at+i) << i
	}
	return number
}
