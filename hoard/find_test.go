package hoard_test

import (
	"math"
	"slices"
	"strings"
	"testing"

	"hoard/api"
	"hoard/hoard"
)

// standing tells where a pattern stands, by looking through the files.
func standing(files []api.File, pattern string) []api.Place {
	var places []api.Place
	for i, f := range files {
		for at := range len(f.Content) {
			if strings.HasPrefix(f.Content[at:], pattern) {
				places = append(places, api.Place{File: i, At: at})
			}
		}
	}
	return places
}

// finds holds that a pattern is counted and located at just these places, and
// of these the first, if fewer are asked for.
func finds(t *testing.T, what string, a *hoard.Archive, pattern string, want []api.Place) {
	t.Helper()
	if count, e := a.Count(pattern); count != len(want) || e != api.OK {
		t.Errorf("%s: Count(%.50q): %d, %d, want %d", what, pattern, count, e, len(want))
	}
	for _, most := range slices.Compact([]int{0, min(1, len(want)), len(want) / 2, max(len(want)-1, 0), len(want), len(want) + 1, math.MaxInt}) {
		first := want[:min(most, len(want))]
		if got, e := a.Locate(pattern, most); !slices.Equal(got, first) || e != api.OK {
			t.Errorf("%s: Locate(%.50q, %d): %v, %d, want %v", what, pattern, most, got, e, first)
		}
	}
}

// Worked out by hand; the document's section Examples ahead of all.
func TestFindByHand(t *testing.T) {
	type at = api.Place
	for _, c := range []struct {
		what     string
		contents []string
		pattern  string
		want     []api.Place
	}{
		{"once", []string{"ab", ""}, "a", []at{{File: 0, At: 0}}},
		{"turned", []string{"ab", ""}, "ba", nil},
		{"the last byte", []string{"ab", ""}, "b", []at{{File: 0, At: 1}}},
		{"in both files", []string{"abab", "ab"}, "ab", []at{{File: 0, At: 0}, {File: 0, At: 2}, {File: 1, At: 0}}},
		{"at the end, and over it", []string{"abab", "ab"}, "aba", []at{{File: 0, At: 0}}},
		{"in the midst, and over the end", []string{"abab", "ab"}, "ba", []at{{File: 0, At: 1}}},
		{"over the end only", []string{"ab", "cd"}, "bc", nil},
		{"over an empty file's end only", []string{"ab", "", "", "cd"}, "bc", nil},
		{"over two ends", []string{"ab", "c", "de"}, "bcd", nil},
		{"the whole text over its ends", []string{"ab", "c", "de"}, "abcde", nil},
		{"over the end and at the next file's beginning", []string{"aa", "aa"}, "aa", []at{{File: 0, At: 0}, {File: 1, At: 0}}},
		{"over one another", []string{"aaaaa"}, "aaa", []at{{File: 0, At: 0}, {File: 0, At: 1}, {File: 0, At: 2}}},
		{"over one another by a byte", []string{"xyxyxyx"}, "xyx", []at{{File: 0, At: 0}, {File: 0, At: 2}, {File: 0, At: 4}}},
		{"over one another in two files", []string{"aaaa", "", "aaa"}, "aa", []at{{File: 0, At: 0}, {File: 0, At: 1}, {File: 0, At: 2}, {File: 2, At: 0}, {File: 2, At: 1}}},
		{"a whole file", []string{"x", "banana", "y"}, "banana", []at{{File: 1, At: 0}}},
		{"a byte more than a file", []string{"x", "banana", "y"}, "bananay", nil},
		{"longer than any file", []string{"aa", "aa", "aa"}, "aaa", nil},
		{"as long as the text", []string{"aa", "aa", "aa"}, "aaaaaa", nil},
		{"longer than the text", []string{"aa", "aa", "aa"}, "aaaaaaa", nil},
		{"the whole of one file", []string{"", "mississippi", ""}, "mississippi", []at{{File: 1, At: 0}}},
		{"a byte that the text has not", []string{"abd"}, "c", nil},
		{"behind a byte that the text has not", []string{"abd"}, "ca", nil},
		{"ahead of a byte that the text has not", []string{"abd"}, "ac", nil},
		{"below all bytes", []string{"abd"}, "\x00", nil},
		{"above all bytes", []string{"abd"}, "\xff", nil},
		{"bytes 0 and 255", []string{"", "\x00\xff\x00\x00"}, "\x00", []at{{File: 1, At: 0}, {File: 1, At: 2}, {File: 1, At: 3}}},
		{"255 ahead of 0", []string{"", "\x00\xff\x00\x00"}, "\xff\x00", []at{{File: 1, At: 1}}},
		{"in no files", nil, "a", nil},
		{"in an empty file", []string{""}, "\x00", nil},
		{"bytes, not letters", []string{"é", "è"}, "\xc3", []at{{File: 0, At: 0}, {File: 1, At: 0}}},
		{"an archive's mark", []string{"HOARD1"}, "HOARD", []at{{File: 0, At: 0}}},
		{"signs of other languages", []string{"a.c", "abc", "a*c"}, "a.c", []at{{File: 0, At: 0}}},
	} {
		finds(t, c.what, loaded(t, packed(t, named(c.contents...))), c.pattern, c.want)
	}
}

// patternsOf tells patterns that stand in files, that stand over their ends
// only, and that stand nowhere.
func patternsOf(files []api.File) []string {
	text := ""
	patterns := []string{"\x00", "\xff", "a", "ab", "\x07\x07", "\xff\xff\xff", long(api.MaxFile + 1)}
	for _, f := range files {
		text += f.Content
		patterns = append(patterns, f.Content, f.Content+"\x00", "\xff"+f.Content)
	}
	end := 0
	for _, f := range files {
		end += len(f.Content)
		for _, reach := range []int{1, 2, api.Step, 100} {
			patterns = append(patterns, text[max(0, end-reach):min(len(text), end+reach)], text[max(0, end-reach):end])
		}
	}
	for at := 0; at < len(text); at += 1 + len(text)/20 {
		for _, length := range []int{1, 2, 3, 5, api.Step, 40, 1000} {
			part := text[at:min(len(text), at+length)]
			patterns = append(patterns, part, part[:len(part)-1]+"\xfe")
		}
	}
	patterns = append(patterns, text, text+"a", text+text, strings.Repeat("\x00", len(text)+1))
	slices.Sort(patterns)
	return slices.DeleteFunc(slices.Compact(patterns), func(p string) bool { return p == "" })
}

func TestFindEdges(t *testing.T) {
	for what, files := range edges() {
		t.Run(what, func(t *testing.T) {
			t.Parallel()
			a := loaded(t, packed(t, files))
			for _, pattern := range patternsOf(files) {
				finds(t, what, a, pattern, standing(files, pattern))
			}
		})
	}
}

// Every byte, of a text that has all of them and of one that has a few.
func TestFindEveryByte(t *testing.T) {
	for _, files := range [][]api.File{named(backwards(allBytes()), "", allBytes()), named(someBytes(8, 900, 11)), named("\x80")} {
		a := loaded(t, packed(t, files))
		for _, b := range []byte(allBytes()) {
			pattern := string([]byte{b})
			finds(t, "a byte alone", a, pattern, standing(files, pattern))
			pattern = string([]byte{b, b + 1})
			finds(t, "a byte and the next", a, pattern, standing(files, pattern))
		}
	}
}

// Of each small text all patterns of up to four bytes: of both kinds that it
// may have, and with one that it has not.
func TestFindSmall(t *testing.T) {
	patterns := []string{"\x40", "\x00\x40", "\x40\x80", "\x80\x81"}
	for length := 1; length <= 4; length++ {
		for number := range 1 << length {
			patterns = append(patterns, strings.NewReplacer("0", "\x00", "1", "\x80").Replace(numberBits(number, length)))
		}
	}
	for _, files := range small() {
		a := loaded(t, packed(t, files))
		for _, pattern := range patterns {
			finds(t, "a small text", a, pattern, standing(files, pattern))
		}
	}
}

func TestFindMany(t *testing.T) {
	for _, files := range many() {
		a := loaded(t, packed(t, files))
		for _, pattern := range patternsOf(files) {
			finds(t, "one of many", a, pattern, standing(files, pattern))
		}
	}
}

// An empty pattern, or fewer than no places: refused, whatever the files are.
func TestFindRefused(t *testing.T) {
	all := edges()
	all["nobody's"] = nil
	for what, files := range all {
		a := loaded(t, packed(t, files))
		if count, e := a.Count(""); count != 0 || e != api.ErrPattern {
			t.Errorf("%s: Count of nothing: %d, %d", what, count, e)
		}
		for _, most := range []int{math.MinInt, math.MinInt + 1, math.MinInt32, -2, -1, 0, 1, 5, math.MaxInt} {
			if places, e := a.Locate("", most); len(places) != 0 || e != api.ErrPattern {
				t.Errorf("%s: Locate of nothing, %d: %v, %d", what, most, places, e)
			}
			for _, pattern := range []string{"a", "\x00", "nowhere at all"} {
				if most >= 0 {
					continue
				}
				if places, e := a.Locate(pattern, most); len(places) != 0 || e != api.ErrPattern {
					t.Errorf("%s: Locate(%q, %d): %v, %d", what, pattern, most, places, e)
				}
			}
		}
	}
}

// Patterns far longer than any text, some of which the text could begin or end.
func TestFindVeryLong(t *testing.T) {
	const size = 1 << 24
	text := strings.Repeat("a", api.MaxFile)
	for _, files := range [][]api.File{nil, empties(2), named(text, text), named("b" + text[1:]), named("ab")} {
		a := loaded(t, packed(t, files))
		for _, pattern := range []string{strings.Repeat("a", size), strings.Repeat("ab", size/2), strings.Repeat("\x00", size) + "a", "b" + strings.Repeat("a", size)} {
			finds(t, "very long", a, pattern, nil)
		}
	}
}

// FuzzFind holds of any three contents, any pattern and any part that they are
// found as looking through the files finds them.
func FuzzFind(f *testing.F) {
	f.Add("abab", "", "ab", "ab", 1, 2)
	f.Add("zzzzzzzzz", "zz", "z", "zzz", 0, 9)
	f.Add("mississi", "ppi", "\x00\xff", "ssi", 7, 1)
	f.Fuzz(func(t *testing.T, first, second, third, pattern string, at, n int) {
		files := named(first, second, third)
		s, e := hoard.Pack(files)
		if e != api.OK {
			return
		}
		a := loaded(t, s)
		if pattern != "" {
			finds(t, "made up", a, pattern, standing(files, pattern))
		}
		for i, file := range files {
			if at >= 0 && n >= 0 && uint64(at)+uint64(n) <= uint64(len(file.Content)) {
				extracts(t, "made up", a, files, i, at, n)
			} else if got, e := a.Extract(i, at, n); got != "" || e != api.ErrRange {
				t.Errorf("Extract(%d, %d, %d): %q, %d", i, at, n, got, e)
			}
		}
	})
}
