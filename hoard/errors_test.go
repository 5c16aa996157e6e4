package hoard_test

import (
	"strings"
	"testing"

	"hoard/api"
	"hoard/hoard"
)

func long(length int) string { return strings.Repeat("n", length) }

// refusal is a list of files and what Pack answers.
type refusal struct {
	what  string
	files []api.File
	want  api.Errno
}

func check(t *testing.T, cases []refusal) {
	t.Helper()
	for _, c := range cases {
		s, e := hoard.Pack(c.files)
		if e != c.want {
			t.Errorf("%s: %d, want %d", c.what, e, c.want)
		}
		if (s == "") != (e != api.OK) {
			t.Errorf("%s: %d bytes with %d", c.what, len(s), e)
		}
	}
}

// Each limit, and one past it.
func TestLimits(t *testing.T) {
	big := long(api.MaxFile)
	check(t, []refusal{
		{"no list", nil, api.OK},
		{"no files", []api.File{}, api.OK},
		{"the most files", empties(api.MaxFiles), api.OK},
		{"a file too many", empties(api.MaxFiles + 1), api.ErrMany},
		{"far too many", make([]api.File, 100000), api.ErrMany},
		{"no name", []api.File{{}}, api.ErrName},
		{"no name, but a content", []api.File{{Content: "c"}}, api.ErrName},
		{"the shortest name", []api.File{{Name: "\x00"}}, api.OK},
		{"the longest name", []api.File{{Name: long(api.MaxName)}}, api.OK},
		{"a name too long", []api.File{{Name: long(api.MaxName + 1)}}, api.ErrName},
		{"a name of 256 bytes", []api.File{{Name: long(256)}}, api.ErrName},
		{"a name counted in bytes", []api.File{{Name: strings.Repeat("é", 17)}}, api.ErrName},
		{"the same name", []api.File{{Name: "a"}, {Name: "a"}}, api.ErrOrder},
		{"a lesser name", []api.File{{Name: "b"}, {Name: "a"}}, api.ErrOrder},
		{"a beginning behind", []api.File{{Name: "ab"}, {Name: "a"}}, api.ErrOrder},
		{"a beginning ahead", []api.File{{Name: "a"}, {Name: "a\x00"}}, api.OK},
		{"shorter and greater", []api.File{{Name: "ab"}, {Name: "b"}}, api.OK},
		{"bytes as numbers", []api.File{{Name: "\x7f"}, {Name: "\x80"}}, api.OK},
		{"bytes as numbers, turned", []api.File{{Name: "\x80"}, {Name: "\x7f"}}, api.ErrOrder},
		{"capitals are lesser", []api.File{{Name: "a"}, {Name: "B"}}, api.ErrOrder},
		{"only the neighbour counts", []api.File{{Name: "a"}, {Name: "c"}, {Name: "b"}}, api.ErrOrder},
		{"the biggest file", named(big), api.OK},
		{"a file too big", named(big + "n"), api.ErrBig},
		{"a file far too big", named(long(1 << 22)), api.ErrBig},
		{"the greatest total", named(big, big), api.OK},
		{"the greatest total in many files", named(big, "", big[1:], "n", ""), api.OK},
		{"a total too great", named(big, big, "n"), api.ErrTotal},
		{"a total too great by far", named(big, big, big, big), api.ErrTotal},
	})
}

// Several errors at a time: the one named first; among files the first file's.
func TestFirstError(t *testing.T) {
	big := long(api.MaxFile)
	bigger := big + "n"
	check(t, []refusal{
		{"many and all else", append(empties(api.MaxFiles), api.File{}, api.File{Content: bigger}), api.ErrMany},
		{"many ahead of a total", append(named(big, big, big), make([]api.File, api.MaxFiles)...), api.ErrMany},
		{"no name ahead of order", []api.File{{Name: "a"}, {}}, api.ErrName},
		{"a long name ahead of order", []api.File{{Name: "z"}, {Name: long(api.MaxName + 1)}}, api.ErrName},
		{"a name ahead of big", []api.File{{Content: bigger}}, api.ErrName},
		{"order ahead of big", []api.File{{Name: "a"}, {Name: "a", Content: bigger}}, api.ErrOrder},
		{"a big file, then one with no name", []api.File{{Name: "a", Content: bigger}, {}}, api.ErrBig},
		{"a big file, then order", []api.File{{Name: "b", Content: bigger}, {Name: "a"}}, api.ErrBig},
		{"order, then no name", []api.File{{Name: "b"}, {Name: "a"}, {}}, api.ErrOrder},
		{"order, then a big file", []api.File{{Name: "b"}, {Name: "a"}, {Name: "c", Content: bigger}}, api.ErrOrder},
		{"no name, then order", []api.File{{Name: "b"}, {}, {Name: "a"}}, api.ErrName},
		{"order behind no name", []api.File{{}, {Name: "a"}, {Name: "a"}}, api.ErrName},
		{"a total, then no name", append(named(big, big, "n"), api.File{}), api.ErrName},
		{"a total, then order", append(named(big, big, "n"), api.File{Name: "\x00"}), api.ErrOrder},
		{"a total, then a big file", named(big, big, "n", bigger), api.ErrBig},
		{"a total by a big file", named(big, big, bigger), api.ErrBig},
		{"the last of the most files", append(empties(api.MaxFiles-1), api.File{}), api.ErrName},
	})
}

// Lists of all kinds: Pack ends and does not panic, and answers one or the other.
func TestAnyList(t *testing.T) {
	names := []string{"", "\x00", "\x00\x00", "\n", "/", "../..", "HOARD1", "a", "é", "\xc3\x28", "\xff", long(api.MaxName), long(api.MaxName + 1), long(1 << 20)}
	contents := []string{"", "\x00", "\xff\xfe", allBytes(), long(api.MaxFile), long(api.MaxFile + 1), long(1 << 20), "HOARD1\x00"}
	for seed := range 3000 {
		var files []api.File
		for i := range seed % 50 {
			pick := someBytes(uint32(seed*64+i), 2, 256)
			files = append(files, api.File{Name: names[int(pick[0])%len(names)], Content: contents[int(pick[1])%len(contents)]})
		}
		s, e := hoard.Pack(files)
		if want := expected(files); e != want || (s == "") != (e != api.OK) {
			t.Fatalf("seed %d: %d bytes, %d, want %d", seed, len(s), e, want)
		}
	}
}

// expected tells what Pack answers, by the document's words.
func expected(files []api.File) api.Errno {
	if len(files) > 40 {
		return api.ErrMany
	}
	total := 0
	for i, f := range files {
		if len(f.Name) < 1 || len(f.Name) > 32 {
			return api.ErrName
		}
		if i > 0 && strings.Compare(files[i-1].Name, f.Name) >= 0 {
			return api.ErrOrder
		}
		if len(f.Content) > 3000 {
			return api.ErrBig
		}
		total += len(f.Content)
	}
	if total > 6000 {
		return api.ErrTotal
	}
	return api.OK
}
