package index

import (
	"testing"

	"hoard/codes"
)

func TestEnds(t *testing.T) {
	for _, c := range []struct {
		ends  []int
		total int
		want  string
		bits  int
	}{
		{nil, 0, "\x00", 1},
		{[]int{0}, 0, "\x01", 2},
		{[]int{0, 0, 0}, 0, "\x07", 4},
		{[]int{2, 2}, 2, "\x0c", 5},
		// One past and one at 2^l m = n: three bytes in two files, four in two.
		{[]int{0, 3}, 3, "\x11", 6},
		{[]int{1, 4}, 4, "\x25", 7},
		{[]int{8, 11}, 11, "\xcc\x00", 9},
		// Fewer bytes than files.
		{[]int{0, 1, 1, 1}, 1, "\x1d", 6},
	} {
		row := MakeEnds(c.ends, c.total)
		if row.Packed() != c.want || row.Len() != c.bits {
			t.Errorf("%v: %x, %d bits, want %x, %d bits", c.ends, row.Packed(), row.Len(), c.want, c.bits)
		}
	}
}

func TestTree(t *testing.T) {
	for _, c := range []struct {
		column, want string
		bits         int
	}{
		{"", "", 0},
		{"aaa", "\x00", 3},
		{"ba", "\x01", 2},
		{"cbaa", "\x13", 6},
		{"ipssmpissii", "\x73\x76\x14", 21},
		// Codes 00, 01, 10, 11: both beginnings of one bit, the lesser first.
		// 0 1 0 1; of 0: a 0, b 1; of 1: d 1, c 0
		{"adbc", "\x6a", 8},
	} {
		row := MakeTree([]byte(c.column), codes.Measure(c.column))
		if row.Packed() != c.want || row.Len() != c.bits {
			t.Errorf("%s: %x, %d bits, want %x, %d bits", c.column, row.Packed(), row.Len(), c.want, c.bits)
		}
	}
}

func TestSamples(t *testing.T) {
	for _, c := range []struct {
		places []int
		want   string
		bits   int
	}{
		{[]int{0}, "\x01", 1},
		{[]int{2, 0, 1}, "\x02", 3},
		// Seven bytes need no bit for a place, eight need one.
		{[]int{7, 6, 5, 4, 3, 2, 1, 0}, "\x80", 8},
		{[]int{8, 7, 6, 5, 4, 3, 2, 1, 0}, "\x01\x03", 11},
		{[]int{0, 1, 2, 3, 4, 5, 6, 7, 8}, "\x01\x05", 11},
	} {
		row := MakeSamples(c.places)
		if row.Packed() != c.want || row.Len() != c.bits {
			t.Errorf("%v: %x, %d bits, want %x, %d bits", c.places, row.Packed(), row.Len(), c.want, c.bits)
		}
	}
}

// The width of a place, below and at each power of two.
func TestPlaceWidth(t *testing.T) {
	for total, want := range map[int]int{0: 0, 7: 0, 8: 1, 15: 1, 16: 2, 31: 2, 32: 3, 63: 3, 64: 4, 6000: 10} {
		if got := placeWidth(total); got != want {
			t.Errorf("%d: %d, want %d", total, got, want)
		}
	}
}
