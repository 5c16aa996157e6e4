package hoard_test

import (
	"math"
	"slices"
	"testing"

	"hoard/api"
	"hoard/hoard"
)

// extracts holds that a part of a file comes out of an archive.
func extracts(t *testing.T, what string, a *hoard.Archive, files []api.File, file, at, n int) {
	t.Helper()
	want := files[file].Content[at : at+n]
	if got, e := a.Extract(file, at, n); got != want || e != api.OK {
		t.Errorf("%s: Extract(%d, %d, %d): %.100q, %d, want %.100q", what, file, at, n, got, e, want)
	}
}

// Both sets of files of the document's section Examples.
func TestExtractExamples(t *testing.T) {
	for _, c := range []struct {
		files       []api.File
		file, at, n int
		want        string
		fault       api.Errno
	}{
		{[]api.File{{Name: "a", Content: "ab"}, {Name: "b"}}, 0, 1, 1, "b", api.OK},
		{[]api.File{{Name: "a", Content: "ab"}, {Name: "b"}}, 0, 1, 2, "", api.ErrRange},
		{[]api.File{{Name: "a", Content: "ab"}, {Name: "b"}}, 1, 0, 0, "", api.OK},
		{[]api.File{{Name: "x", Content: "abab"}, {Name: "y", Content: "ab"}}, 0, 1, 3, "bab", api.OK},
		{[]api.File{{Name: "x", Content: "abab"}, {Name: "y", Content: "ab"}}, 1, 0, 2, "ab", api.OK},
		{[]api.File{{Name: "x", Content: "abab"}, {Name: "y", Content: "ab"}}, 0, 3, 2, "", api.ErrRange},
	} {
		a := loaded(t, packed(t, c.files))
		if got, e := a.Extract(c.file, c.at, c.n); got != c.want || e != c.fault {
			t.Errorf("%v: Extract(%d, %d, %d): %q, %d, want %q, %d", c.files, c.file, c.at, c.n, got, e, c.want, c.fault)
		}
	}
}

// Of files that are not too long, every part; of longer ones short parts from
// every byte on, and long ones from some.
func TestExtractEdges(t *testing.T) {
	for what, files := range edges() {
		t.Run(what, func(t *testing.T) {
			t.Parallel()
			a := loaded(t, packed(t, files))
			for i, f := range files {
				size := len(f.Content)
				for at := range size + 1 {
					if t.Failed() {
						return
					}
					for n := range size - at + 1 {
						if size <= 256 || n <= api.Step+1 || (at%251 == 0 || at+n == size) && n%199 == 0 {
							extracts(t, what, a, files, i, at, n)
						}
					}
				}
				extracts(t, what, a, files, i, 0, size)
			}
		})
	}
}

// Every part of small texts; of more texts, parts of all lengths.
func TestExtractMany(t *testing.T) {
	for number, files := range slices.Concat(small(), many()) {
		a := loaded(t, packed(t, files))
		for i, f := range files {
			if t.Failed() {
				return
			}
			size := len(f.Content)
			for at := range size + 1 {
				for n := range size - at + 1 {
					if size < 10 || (at+n+number)%23 == 0 {
						extracts(t, "one of many", a, files, i, at, n)
					}
				}
			}
		}
	}
}

// sizes tells numbers that lie around a size, and the least and greatest ones.
func sizes(size int) []int {
	return []int{
		math.MinInt, math.MinInt + 1, math.MinInt + size, math.MinInt32, -size, -2, -1,
		0, 1, size / 2, size - 1, size, size + 1, api.MaxTotal, api.MaxTotal + 1, math.MaxInt32, 1 << 32,
		math.MaxInt - size, math.MaxInt - size + 1, math.MaxInt - 1, math.MaxInt,
	}
}

// All numbers, those too whose sum runs past the greatest one: a part that is
// there comes out, all else is refused.
func TestExtractRange(t *testing.T) {
	for what, files := range map[string][]api.File{
		"no files":     nil,
		"empty files":  empties(3),
		"short files":  named("abc", "", "de", "fghijklmn"),
		"one file":     named(someBytes(5, 100, 20)),
		"great total":  named(long(api.MaxFile), someBytes(6, api.MaxFile, 9)),
		"all the room": empties(api.MaxFiles),
	} {
		a := loaded(t, packed(t, files))
		for _, file := range append(sizes(len(files)), 2, 3, 255, 256) {
			size := 0
			if file >= 0 && file < len(files) {
				size = len(files[file].Content)
			}
			for _, at := range sizes(size) {
				for _, n := range sizes(size) {
					if file >= 0 && file < len(files) && at >= 0 && n >= 0 && uint64(at)+uint64(n) <= uint64(size) {
						extracts(t, what, a, files, file, at, n)
						continue
					}
					if got, e := a.Extract(file, at, n); got != "" || e != api.ErrRange {
						t.Fatalf("%s: Extract(%d, %d, %d): %.100q, %d, want ErrRange", what, file, at, n, got, e)
					}
				}
			}
		}
	}
}

// What stands behind a file's end, or ahead of it, belongs to another one.
func TestExtractKeepsToTheFile(t *testing.T) {
	a := loaded(t, packed(t, named("one", "two", "three")))
	for _, c := range [][3]int{{0, 0, 4}, {0, 3, 1}, {0, 4, 0}, {0, 3, 3}, {1, -1, 1}, {1, -1, 2}, {1, 0, 8}, {1, 3, 1}, {2, 0, 6}, {2, 6, 0}, {3, 0, 0}, {3, -1, 1}, {-1, 0, 0}, {-1, 0, 1}, {0, 3, -1}, {1, 0, -1}} {
		if got, e := a.Extract(c[0], c[1], c[2]); got != "" || e != api.ErrRange {
			t.Errorf("Extract%v: %q, %d, want ErrRange", c, got, e)
		}
	}
	for i, want := range []string{"one", "two", "three"} {
		if got, e := a.Extract(i, 0, len(want)); got != want || e != api.OK {
			t.Errorf("file %d: %q, %d", i, got, e)
		}
		if got, e := a.Extract(i, len(want), 0); got != "" || e != api.OK {
			t.Errorf("file %d, nothing at its end: %q, %d", i, got, e)
		}
	}
}
