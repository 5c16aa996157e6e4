package index

import (
	"slices"
	"strings"
	"testing"

	"hoard/api"
	"hoard/codes"
	"hoard/rows"
)

// How many bytes of each kind stand ahead of each byte, and of the end.
func TestAhead(t *testing.T) {
	for _, column := range columns() {
		lengths := codes.Measure(column)
		made := MakeTree([]byte(column), lengths)
		read, ok := ReadTree(made.Packed(), len(column), lengths)
		if !ok {
			t.Fatalf("%q: not read", column)
		}
		for _, tree := range []Tree{made, read} {
			var counts [256]int
			for at := range len(column) + 1 {
				for b, want := range counts {
					if got := tree.Ahead(byte(b), at); got != want {
						t.Fatalf("%q: %d of %q ahead of %d, want %d", column, got, byte(b), at, want)
					}
				}
				if at < len(column) {
					counts[column[at]]++
				}
			}
		}
	}
}

// A tree that nobody made has no bytes.
func TestAheadOfNothing(t *testing.T) {
	var tree Tree
	if got := tree.Ahead('a', 0); got != 0 {
		t.Errorf("%d", got)
	}
}

// From every rows up to every others, with each byte ahead: just the rows whose
// endings are theirs with it ahead.
func TestBounds(t *testing.T) {
	for _, text := range []string{"", "a", "aaa", "ab", "mississippi", "abracadabra", "\x00\xff\x00\x00"} {
		places := rows.Sort(text)
		all := MakeRows(MakeTree(rows.Column(text, places), codes.Measure(text)), rows.Root(places))
		for from := range len(places) + 1 {
			for to := from; to <= len(places); to++ {
				for _, b := range []byte(text + "\x00q\xff") {
					var want []int
					for row, place := range places {
						if place == len(text) || text[place] != b {
							continue
						}
						if shorter := slices.Index(places, place+1); from <= shorter && shorter < to {
							want = append(want, row)
						}
					}
					first, last := all.Bounds(b, from, to)
					if last-first != len(want) || len(want) > 0 && (first != want[0] || last != want[len(want)-1]+1) {
						t.Fatalf("%q: %q ahead of rows %d to %d: %d to %d, want %v", text, b, from, to, first, last, want)
					}
				}
			}
		}
	}
}

// sampledTexts tells texts of many lengths, around each multiple of Step.
func sampledTexts() []string {
	var texts []string
	for length := range 70 {
		texts = append(texts, strings.Repeat("abc", length)[:length], strings.Repeat("a", length))
	}
	return append(texts, strings.Repeat("abcdefg", 143), strings.Repeat("ab", 3000))
}

// readSamples makes the samples of some places and reads them again.
func readSamples(t *testing.T, places []int) Samples {
	made := MakeSamples(places)
	read, ok := ReadSamples(made.Packed(), len(places)-1)
	if !ok {
		t.Fatalf("%d rows: not read", len(places))
	}
	return read
}

// Each row's place, where it is told: at every multiple of Step, nowhere else.
func TestSampledPlace(t *testing.T) {
	for _, text := range sampledTexts() {
		places := rows.Sort(text)
		for _, samples := range []Samples{MakeSamples(places), readSamples(t, places)} {
			for row, place := range places {
				got, told := samples.Place(row)
				if told != (place%api.Step == 0) || told && got != place || !told && got != 0 {
					t.Fatalf("%d bytes: row %d: place %d, %t, want %d", len(text), row, got, told, place)
				}
			}
		}
	}
}

// The next place that is known, and its row: a told one, or the text's end.
func TestNear(t *testing.T) {
	for _, text := range sampledTexts() {
		places := rows.Sort(text)
		for _, samples := range []Samples{MakeSamples(places), readSamples(t, places)} {
			for place := range len(text) + 1 {
				want := place
				for want%api.Step != 0 && want < len(text) {
					want++
				}
				row, at := samples.Near(place)
				if at != want || places[row] != want {
					t.Fatalf("%d bytes: near %d: row %d, place %d, want %d", len(text), place, row, at, want)
				}
			}
		}
	}
}

// Which file has each byte: never one that is empty.
func TestHolder(t *testing.T) {
	for _, sizes := range [][]int{{1}, {5}, {2, 3}, {0, 2}, {2, 0}, {0, 0, 1, 0, 0, 2, 0}, {1, 1, 1, 1}, {3000, 3000}, {100, 0, 0, 200, 1}, slices.Repeat([]int{3}, 40)} {
		var ends, holders []int
		for i, size := range sizes {
			holders = append(holders, slices.Repeat([]int{i}, size)...)
			ends = append(ends, len(holders))
		}
		row := MakeEnds(ends, len(holders))
		for place, want := range holders {
			if got := row.Holder(place); got != want {
				t.Fatalf("%v: the byte at %d is in file %d, want %d", sizes, place, got, want)
			}
		}
	}
}
