package hoard_test

import (
	"testing"

	"hoard/api"
)

// turn turns the bits of a string, from one on, where the pattern has ones: its
// lowest bit first. Ones past the end are left out.
func turn(s string, from int, pattern uint32) string {
	b := []byte(s)
	for i := range 32 {
		if at := from + i; pattern>>i&1 == 1 && at < 8*len(b) {
			b[at/8] ^= 1 << (at % 8)
		}
	}
	return string(b)
}

// patterns tells rows of bits, from the first 1 to the last so many long: the
// two alone, all, and some between.
func patterns(length int, seed uint32) []uint32 {
	last := uint32(1) << (length - 1)
	all := last | (last - 1)
	some := uint32(0)
	for i := range 4 {
		some = some<<8 | uint32(someBytes(seed+uint32(i), 2, 256)[1])
	}
	return []uint32{1 | last, all, 1 | last | some&all}
}

// Small archives: turned from each bit on, over each number of bits.
func TestTurned(t *testing.T) {
	for k, files := range [][]api.File{nil, empties(1), named("ab", ""), named("zzzzzzzz"), sheet()} {
		s := packed(t, files)
		for from := range 8 * len(s) {
			for length := range 32 {
				for _, pattern := range patterns(length+1, uint32(k*100000+from*32+length)) {
					refuse(t, "turned", turn(s, from, pattern))
				}
			}
		}
	}
}

// Great archives: turned here and there, and everywhere around their sums.
func TestTurnedGreat(t *testing.T) {
	for what, files := range edges() {
		s := packed(t, files)
		for k := range 300 {
			from := k * 8 * len(s) / 300
			refuse(t, what, turn(s, from, patterns(32, uint32(k))[2]))
			refuse(t, what, turn(s, from, 1))
		}
		for from := 8*len(s) - 70; from < 8*len(s); from++ {
			for _, pattern := range patterns(1+from%32, uint32(from)) {
				refuse(t, what, turn(s, from, pattern))
			}
		}
	}
}

// Cut at any byte; for the great ones, at some.
func TestCut(t *testing.T) {
	for what, files := range edges() {
		s := packed(t, files)
		step := 1 + len(s)/500
		for length := 0; length < len(s); length += step {
			refuse(t, what, s[:length])
		}
		for gone := range 20 {
			if gone > 0 && gone < len(s) {
				refuse(t, what, s[:len(s)-gone])
			}
		}
	}
}

func TestLonger(t *testing.T) {
	for what, files := range edges() {
		s := packed(t, files)
		for b := range 256 {
			refuse(t, what, s+string([]byte{byte(b)}))
		}
		for count := range 40 {
			refuse(t, what, s+string(make([]byte, 1+count)))
		}
		refuse(t, what+", sealed again", sealed(s))
		refuse(t, what+", longer ahead of the sum", sealed(s[:len(s)-4]+"\x00"))
		refuse(t, what+", twice", s+s)
		refuse(t, what+", no files behind", s+packed(t, nil))
		refuse(t, what+", a byte ahead", "\x00"+s)
	}
}
