// Package bitrow holds rows of bits as they stand in an archive's bytes.
package bitrow

// Bits is a row of plain bits: the first is the lowest of the first byte.
// The bits behind the last one stay 0, so that a row has just one form in bytes.
type Bits struct {
	bytes  []byte
	length int
}

// Len tells how many bits there are.
func (b *Bits) Len() int { return b.length }

// Grow adds bits that are 0.
func (b *Bits) Grow(count int) {
	b.length += count
	for len(b.bytes)*8 < b.length {
		b.bytes = append(b.bytes, 0)
	}
}

// Set makes a bit that is there 1.
func (b *Bits) Set(at int) {
	b.bytes[at/8] |= 1 << (at % 8)
}

// Add adds a bit.
func (b *Bits) Add(one bool) {
	b.Grow(1)
	if one {
		b.Set(b.length - 1)
	}
}

// AddNumber adds the lowest bits of a number, the lowest first.
func (b *Bits) AddNumber(number, width int) {
	for i := range width {
		b.Add(number>>i&1 == 1)
	}
}

// Packed tells the bits in bytes. It is a string because the row goes on
// owning its bytes.
func (b *Bits) Packed() string { return string(b.bytes) }
