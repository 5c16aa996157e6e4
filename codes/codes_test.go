package codes

import (
	"strings"
	"testing"
)

// told tells codes as texts of 0 and 1.
func told(table Table) map[byte]string {
	texts := map[byte]string{}
	for b, code := range table {
		for i := range code.Length {
			texts[byte(b)] += string(rune('0' + code.Bit(i)))
		}
	}
	return texts
}

func TestCodes(t *testing.T) {
	for _, c := range []struct {
		text string
		want map[byte]string
	}{
		{"", map[byte]string{}},
		{"a", map[byte]string{'a': "0"}},
		{"zzzz", map[byte]string{'z': "0"}},
		{"ba", map[byte]string{'a': "0", 'b': "1"}},
		{"abac", map[byte]string{'a': "0", 'b': "10", 'c': "11"}},
		{"mississippi", map[byte]string{'s': "0", 'i': "10", 'm': "110", 'p': "111"}},
		{"abcde", map[byte]string{'c': "00", 'd': "01", 'e': "10", 'a': "110", 'b': "111"}},
		// The code of the next one grows by two bits at once.
		{"abcd" + strings.Repeat("z", 9), map[byte]string{'z': "0", 'a': "100", 'b': "101", 'c': "110", 'd': "111"}},
	} {
		got := told(Assign(Measure(c.text)))
		for b := range 256 {
			if got[byte(b)] != c.want[byte(b)] {
				t.Errorf("%q: the code of %q is %s, want %s", c.text, rune(b), got[byte(b)], c.want[byte(b)])
			}
		}
	}
}

func TestBytes(t *testing.T) {
	if got := string(Measure("zebra\xff\x00").Bytes()); got != "\x00aberz\xff" {
		t.Errorf("%q", got)
	}
}

// No code is the beginning of another, and no row of bits is left over.
func TestWhole(t *testing.T) {
	text := ""
	for i := range 70 {
		text += strings.Repeat(string([]byte{byte(i * 3)}), 1+i*i%50)
	}
	lengths := Measure(text)
	full := 0
	for _, b := range lengths.Bytes() {
		full += 1 << (40 - lengths[b])
	}
	if full != 1<<40 {
		t.Errorf("%x", full)
	}
	codes := told(Assign(lengths))
	for a, code := range codes {
		for b, other := range codes {
			if a != b && strings.HasPrefix(other, code) {
				t.Errorf("%s begins %s", code, other)
			}
		}
	}
}
