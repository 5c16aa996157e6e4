package index

import (
	"slices"
	"strings"
	"testing"

	"hoard/codes"
	"hoard/rows"
)

func sameBits(a, b interface {
	Len() int
	Packed() string
}) bool {
	return a.Len() == b.Len() && a.Packed() == b.Packed()
}

// Every two and three ends of texts of several lengths, read and asked.
func TestReadEnds(t *testing.T) {
	lists := [][]int{{}, {0}, {1}, {6000}, {0, 0, 0, 0, 0}, slices.Repeat([]int{0}, 40), append(slices.Repeat([]int{0}, 39), 3000), {3000, 6000}}
	for total := range 40 {
		for first := range total + 1 {
			lists = append(lists, []int{first, total}, []int{first / 2, first, total}, []int{0, first, first, total, total})
		}
	}
	for _, ends := range lists {
		total := 0
		if len(ends) > 0 {
			total = ends[len(ends)-1]
		}
		made := MakeEnds(ends, total)
		read, ok := ReadEnds(made.Packed()+"\xff", len(ends), total)
		if !ok || !sameBits(&read, &made) {
			t.Fatalf("%v: %t, %x, want %x", ends, ok, read.Packed(), made.Packed())
		}
		ahead := 0
		for i, end := range ends {
			if from, to := read.File(i); from != ahead || to != end {
				t.Fatalf("%v: file %d from %d to %d", ends, i, from, to)
			}
			ahead = end
		}
		if _, ok := ReadEnds(made.Packed(), len(ends), total); !ok {
			t.Fatalf("%v: not read from just as many bytes", ends)
		}
		if _, ok := ReadEnds(made.Packed()[1:], len(ends), total); ok {
			t.Fatalf("%v: read from too few bytes", ends)
		}
	}
}

func TestReadNoEnds(t *testing.T) {
	for _, c := range []struct {
		what         string
		bytes        string
		files, total int
	}{
		{"no bytes", "", 0, 0},
		{"no bytes for many files", "", 255, 65535},
		{"bytes, but no file", "\x00", 0, 1},
		{"a file, but no end", "\x00", 1, 0},
		{"two ends of one file", "\x03", 1, 0},
		{"no end of the second file", "\x02", 2, 2},
		{"three ends of two files", "\x1c", 2, 2},
		{"the last end below the total", "\x06", 2, 2},
		{"the last end above the total", "\x14", 2, 2},
		{"both ends above the total", "\x18", 2, 2},
		// 1 0, 1 0 ahead of 0 0 1 1 0: ends 9 and 9.
		{"low bits short of the total", "\xc5\x00", 2, 11},
		// 1 1, 0 1 ahead of 0 0 1 1 0: ends 11 and 10.
		{"ends out of order", "\xcb\x00", 2, 10},
	} {
		if ends, ok := ReadEnds(c.bytes, c.files, c.total); ok || ends.Len() != 0 {
			t.Errorf("%s: read", c.what)
		}
	}
}

func columns() []string {
	var all strings.Builder
	for i := range 512 {
		all.WriteByte(byte(i * i / 3))
	}
	return []string{"", "a", "aaa", "ba", "cbaa", "ipssmpissii", "adbc", "\x00\xff\x00", strings.Repeat("\x00", 100), strings.Repeat("abacabad", 20) + "e", all.String()}
}

// Each byte of the column, and how many of its kind are ahead of it.
func TestReadTree(t *testing.T) {
	for _, column := range columns() {
		lengths := codes.Measure(column)
		made := MakeTree([]byte(column), lengths)
		read, ok := ReadTree(made.Packed()+"\xff\xff", len(column), lengths)
		if !ok || !sameBits(&read, &made) || read.Total() != len(column) || made.Total() != len(column) {
			t.Fatalf("%q: %t, %x, want %x", column, ok, read.Packed(), made.Packed())
		}
		for _, tree := range []Tree{made, read} {
			for i := range len(column) {
				b, ahead := tree.Byte(i)
				if want := strings.Count(column[:i], column[i:i+1]); b != column[i] || ahead != want {
					t.Fatalf("%q: byte %d is %q behind %d, want %q behind %d", column, i, b, ahead, column[i], want)
				}
			}
		}
		if _, ok := ReadTree(made.Packed(), len(column), lengths); !ok {
			t.Fatalf("%q: not read from just as many bytes", column)
		}
		if _, ok := ReadTree(made.Packed()[:max(len(made.Packed())-1, 0)], len(column), lengths); ok && column != "" {
			t.Fatalf("%q: read from too few bytes", column)
		}
	}
}

// Where bits beyond the tree's own stand, other trees of these codes may.
func TestReadTreeTakesItsOwn(t *testing.T) {
	lengths := codes.Measure("abac")
	// 0 0 0 0 is all; 1 1 1 1 has four more bits behind.
	for bytes, want := range map[string]int{"\x00\xff": 4, "\xf0": 4, "\x0f": 8, "\x01": 5, "\xff": 8} {
		if tree, ok := ReadTree(bytes, 4, lengths); !ok || tree.Len() != want {
			t.Errorf("%x: %t, %d bits, want %d", bytes, ok, tree.Len(), want)
		}
	}
}

func TestReadNoTree(t *testing.T) {
	var long codes.Lengths
	for i := range 256 {
		long[i] = 255
	}
	for _, c := range []struct {
		what    string
		bytes   string
		total   int
		lengths codes.Lengths
	}{
		{"no codes, but bytes", "\x00", 1, codes.Lengths{}},
		{"no codes, but many bytes", strings.Repeat("\xff", 100), 65535, codes.Lengths{}},
		{"a 1 where there is one byte", "\x04", 3, codes.Lengths{1}},
		{"a code of two bits alone", "\x00", 3, codes.Lengths{2}},
		{"three codes of one bit", "\x00", 3, codes.Lengths{1, 1, 1}},
		{"no bits", "", 1, codes.Lengths{1, 1}},
		{"too few bits", "\x00", 9, codes.Lengths{1, 1}},
		{"too few bits in the second node", "\x1f", 5, codes.Lengths{1, 2, 2}},
		{"all as long as may be", strings.Repeat("\xff", 100000), 65535, long},
	} {
		if tree, ok := ReadTree(c.bytes, c.total, c.lengths); ok || tree.Total() != 0 {
			t.Errorf("%s: read", c.what)
		}
	}
}

// Codes that the column does not have stay out of the way.
func TestReadTreeUnused(t *testing.T) {
	tree, ok := ReadTree("\x00", 3, codes.Lengths{2, 1, 3, 3})
	if b, ahead := tree.Byte(2); !ok || tree.Len() != 3 || b != 1 || ahead != 2 {
		t.Errorf("%t, %d bits, %d behind %d", ok, tree.Len(), b, ahead)
	}
}

func TestReadSamples(t *testing.T) {
	for total := range 70 {
		places := rows.Sort(strings.Repeat("abc", total)[:total])
		made := MakeSamples(places)
		for _, behind := range []string{"", "\xff"} {
			read, ok := ReadSamples(made.Packed()+behind, total)
			if !ok || !sameBits(&read, &made) {
				t.Fatalf("%d: %t, %x, want %x", total, ok, read.Packed(), made.Packed())
			}
		}
		if _, ok := ReadSamples(made.Packed()[1:], total); ok {
			t.Fatalf("%d: read from too few bytes", total)
		}
	}
}

func TestReadNoSamples(t *testing.T) {
	for _, c := range []struct {
		what, bytes string
		total       int
	}{
		{"no bits", "", 0},
		{"no place", "\x00", 0},
		{"no place of three", "\x08", 2},
		{"two places of three", "\x03", 2},
		{"one place of nine", "\x01\x02", 8},
		{"three places of nine", "\x83\x03", 8},
		{"the longest text", strings.Repeat("\xff", 100), 65535},
	} {
		if samples, ok := ReadSamples(c.bytes, c.total); ok || samples.Len() != 0 {
			t.Errorf("%s: read", c.what)
		}
	}
}

// From row to row, each one's byte, and the row whose ending is longer by it.
func TestLonger(t *testing.T) {
	for _, text := range append(columns(), "mississippi", "abracadabra") {
		places := rows.Sort(text)
		column := rows.Column(text, places)
		root := rows.Root(places)
		all := MakeRows(MakeTree(column, codes.Measure(text)), root)
		for row, place := range places {
			b, longer := all.Longer(row)
			if place == 0 {
				if b != 0 || longer != 0 {
					t.Fatalf("%q: the root's row leads to %d", text, longer)
				}
				continue
			}
			if b != text[place-1] || places[longer] != place-1 {
				t.Fatalf("%q: row %d has %q and leads to %d", text, row, b, longer)
			}
		}
	}
}

// Any column with any root leads from each row to another, none twice.
func TestLongerIsWhole(t *testing.T) {
	for number := range 1 << 8 {
		column := make([]byte, 8)
		for i := range column {
			column[i] = byte(number >> i & 1)
		}
		tree := MakeTree(column, codes.Measure(string(column)))
		for root := range len(column) + 1 {
			all := MakeRows(tree, root)
			var seen [9]bool
			for row := range seen {
				_, longer := all.Longer(row)
				if seen[longer] {
					t.Fatalf("%v, root %d: to row %d again", column, root, longer)
				}
				seen[longer] = true
			}
		}
	}
}
