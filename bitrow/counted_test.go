package bitrow

import (
	"strings"
	"testing"
)

// Rows of all kinds, and of lengths around whole bytes.
func TestCounts(t *testing.T) {
	for length := range 70 {
		for _, part := range []string{"0", "1", "01", "110", "0000000001", "1000000000000000000001"} {
			bits := strings.Repeat(part, length)[:length]
			counted := Count(row(bits))
			for at := range length + 1 {
				if got, want := counted.Ones(at), strings.Count(bits[:at], "1"); got != want {
					t.Fatalf("%s: %d ones ahead of %d, want %d", bits, got, at, want)
				}
			}
			number := 0
			for at := range length {
				if bits[at] == '0' {
					continue
				}
				if got := counted.One(number); got != at {
					t.Fatalf("%s: one %d at %d, want %d", bits, number, got, at)
				}
				number++
			}
		}
	}
}

// What is left of the last byte is not counted, though it may be anything.
func TestCountsOfRead(t *testing.T) {
	counted := Count(Read("\x01\xfa\xff", 11))
	if got := counted.Ones(11); got != 2 {
		t.Errorf("%d ones", got)
	}
	if got := counted.One(1); got != 9 {
		t.Errorf("the last one at %d", got)
	}
}

// A row with counts has the methods of the bits in it.
func TestCountedIsBits(t *testing.T) {
	counted := Count(row("101100000"))
	if counted.Len() != 9 || counted.Packed() != "\x0d\x00" || counted.Bit(3) != 1 || counted.Number(1, 3) != 6 {
		t.Errorf("%d bits, %x", counted.Len(), counted.Packed())
	}
}
