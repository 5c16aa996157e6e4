package rows

import (
	"slices"
	"strings"
	"testing"
)

func TestByHand(t *testing.T) {
	for _, c := range []struct {
		text   string
		places []int
		root   int
		column string
	}{
		{"", []int{0}, 0, ""},
		{"a", []int{1, 0}, 1, "a"},
		{"ab", []int{2, 0, 1}, 1, "ba"},
		{"ba", []int{2, 1, 0}, 2, "ab"},
		{"aaaa", []int{4, 3, 2, 1, 0}, 4, "aaaa"},
		{"\x00\x00", []int{2, 1, 0}, 2, "\x00\x00"},
		{"\x80\x7f", []int{2, 1, 0}, 2, "\x7f\x80"},
		{"mississippi", []int{11, 10, 7, 4, 1, 0, 9, 8, 6, 3, 5, 2}, 5, "ipssmpissii"},
	} {
		places := Sort(c.text)
		column := string(Column(c.text, places))
		if !slices.Equal(places, c.places) || Root(places) != c.root || column != c.column {
			t.Errorf("%q: %v, root %d, %q", c.text, places, Root(places), column)
		}
	}
}

// Texts that repeat themselves, of lengths around the powers of two.
func TestInOrder(t *testing.T) {
	for length := range 140 {
		for _, part := range []string{"a", "ab", "aab", "\xff\x00", "abcabd", strings.Repeat("a", 31) + "b"} {
			text := strings.Repeat(part, length)[:length]
			places := Sort(text)
			if len(places) != length+1 {
				t.Fatalf("%q: %d rows", text, len(places))
			}
			for row := 1; row < len(places); row++ {
				if text[places[row-1]:] >= text[places[row]:] {
					t.Fatalf("%q: row %d is not greater than the one ahead", text, row)
				}
			}
		}
	}
}
