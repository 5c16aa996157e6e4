package codes

import (
	"slices"
	"strings"
	"testing"
)

// told tells codes as texts of 0 and 1.
func told(table Table) map[byte]string {
	texts := map[byte]string{}
	for b, code := range table {
		for i := range code.Length {
			texts[byte(b)] += string(rune('0' + code.Bit(i)))
		}
	}
	return texts
}

func TestCodes(t *testing.T) {
	for _, c := range []struct {
		text string
		want map[byte]string
	}{
		{"", map[byte]string{}},
		{"a", map[byte]string{'a': "0"}},
		{"zzzz", map[byte]string{'z': "0"}},
		{"ba", map[byte]string{'a': "0", 'b': "1"}},
		{"abac", map[byte]string{'a': "0", 'b': "10", 'c': "11"}},
		{"mississippi", map[byte]string{'s': "0", 'i': "10", 'm': "110", 'p': "111"}},
		{"abcde", map[byte]string{'c': "00", 'd': "01", 'e': "10", 'a': "110", 'b': "111"}},
		// The code of the next one grows by two bits at once.
		{"abcd" + strings.Repeat("z", 9), map[byte]string{'z': "0", 'a': "100", 'b': "101", 'c': "110", 'd': "111"}},
	} {
		got := told(Assign(Measure(c.text)))
		for b := range 256 {
			if got[byte(b)] != c.want[byte(b)] {
				t.Errorf("%q: the code of %q is %s, want %s", c.text, rune(b), got[byte(b)], c.want[byte(b)])
			}
		}
	}
}

func TestBytes(t *testing.T) {
	if got := string(Measure("zebra\xff\x00").Bytes()); got != "\x00aberz\xff" {
		t.Errorf("%q", got)
	}
}

// The bytes in the order of their codes.
func TestOrder(t *testing.T) {
	for text, want := range map[string]string{"": "", "z": "z", "mississippi": "simp", "abcde": "cdeab", "\xff\x00\x80\x01": "\x00\x01\x80\xff"} {
		if got := string(Measure(text).Order()); got != want {
			t.Errorf("%q: %q, want %q", text, got, want)
		}
	}
}

func TestLongest(t *testing.T) {
	for text, want := range map[string]int{"": 0, "aaa": 1, "ab": 1, "mississippi": 3, "\xff\xff\x00\x01": 2} {
		if got := Measure(text).Longest(); got != want {
			t.Errorf("%q: %d, want %d", text, got, want)
		}
	}
}

// inLine gives these lengths to the bytes from 0 on.
func inLine(lengths ...int) Lengths {
	var all Lengths
	copy(all[:], lengths)
	return all
}

// chain tells the lengths 1, 2, and so on up to the longest, which two have.
func chain(longest int) Lengths {
	var all Lengths
	for i := range longest {
		all[i] = i + 1
	}
	all[longest] = longest
	return all
}

func same(length, count int) []int { return slices.Repeat([]int{length}, count) }

func TestWholeLengths(t *testing.T) {
	for _, c := range []struct {
		what    string
		lengths Lengths
		want    bool
	}{
		{"none", inLine(), true},
		{"one byte alone", inLine(0, 0, 1), true},
		{"one byte alone, too long", inLine(2), false},
		{"one byte alone, far too long", inLine(255), false},
		{"two bytes", inLine(1, 0, 1), true},
		{"two bytes, one too long", inLine(1, 2), false},
		{"two bytes, both too long", inLine(2, 2), false},
		{"three bytes", inLine(2, 1, 2), true},
		{"three bytes too short", inLine(1, 1, 1), false},
		{"a little too much", inLine(1, 1, 32), false},
		{"a little too few", inLine(1, 2, 3, 4, 5, 6, 7, 9), false},
		{"all bytes of one length", inLine(same(8, 256)...), true},
		{"all bytes too short", inLine(same(7, 256)...), false},
		{"all bytes too long", inLine(same(9, 256)...), false},
		{"all bytes as short as may be", inLine(same(1, 256)...), false},
		{"all bytes as long as may be", inLine(same(255, 256)...), false},
		{"the longest", chain(most), true},
		{"longer than the longest", chain(most + 1), false},
		{"far longer", chain(64), false},
		{"as long as there are bytes", chain(255), false},
	} {
		if got := c.lengths.Whole(); got != c.want {
			t.Errorf("%s: %t", c.what, got)
		}
	}
}

// What a text gives is whole.
func TestMeasuredIsWhole(t *testing.T) {
	text := ""
	for i := range 300 {
		text += string([]byte{byte(i * i)}) + strings.Repeat(string([]byte{byte(i)}), i%7)
		if !Measure(text).Whole() {
			t.Fatalf("%q", text)
		}
	}
}

// No code is the beginning of another, and no row of bits is left over.
func TestApart(t *testing.T) {
	text := ""
	for i := range 70 {
		text += strings.Repeat(string([]byte{byte(i * 3)}), 1+i*i%50)
	}
	lengths := Measure(text)
	full := 0
	for _, b := range lengths.Bytes() {
		full += 1 << (40 - lengths[b])
	}
	if full != 1<<40 {
		t.Errorf("%x", full)
	}
	codes := told(Assign(lengths))
	for a, code := range codes {
		for b, other := range codes {
			if a != b && strings.HasPrefix(other, code) {
				t.Errorf("%s begins %s", code, other)
			}
		}
	}
}
