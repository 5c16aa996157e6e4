package hoard_test

import (
	"slices"
	"strings"
	"testing"

	"hoard/api"
	"hoard/hoard"
)

func allBytes() string {
	b := make([]byte, 256)
	for i := range b {
		b[i] = byte(i)
	}
	return string(b)
}

// someBytes tells bytes of so many kinds, the same ones for the same seed.
func someBytes(seed uint32, length, kinds int) string {
	b := make([]byte, length)
	for i := range b {
		seed = seed*1664525 + 1013904223
		b[i] = byte(int(seed>>16) % kinds * 7)
	}
	return string(b)
}

// named tells files that have these contents, with names in order.
func named(contents ...string) []api.File {
	var files []api.File
	for i, content := range contents {
		files = append(files, api.File{Name: string([]byte{byte(i)}), Content: content})
	}
	return files
}

func empties(count int) []api.File { return named(make([]string, count)...) }

// packed packs files that may be.
func packed(t *testing.T, files []api.File) string {
	t.Helper()
	s, e := hoard.Pack(files)
	if e != api.OK {
		t.Fatalf("refused with %d", e)
	}
	return s
}

// Both archives of the document's section Examples, to the byte, sum and all.
func TestExamples(t *testing.T) {
	for _, c := range []struct {
		files []api.File
		want  string
	}{
		{nil, "HOARD1\x00\x00\x00\x00\x00" + "\x00" + "\x00\x00" + "\x01" + "\x5a\xc8\x70\xe3"},
		{[]api.File{{Name: "a", Content: "ab"}, {Name: "b"}}, "HOARD1\x02\x02\x00\x01\x00" + "\x01a\x01b" + "\x0c" + "\x02\x00a\x01b\x01" + "\x01" + "\x02" + "\xca\x87\x83\x14"},
	} {
		if s := packed(t, c.files); s != c.want {
			t.Errorf("%v: %x, want %x", c.files, s, c.want)
		}
	}
}

// Archives worked out by hand.
func TestByHand(t *testing.T) {
	for _, c := range []struct {
		what  string
		files []api.File
		want  string
	}{
		{"no files", []api.File{}, "HOARD1\x00\x00\x00\x00\x00" + "\x00" + "\x00\x00" + "\x01"},
		// Three ends of 0: the numbers 0, 1 and 2 of 3 + 0 + 1 bits.
		{"nothing in them", []api.File{{Name: "\x00"}, {Name: "\x00\x00"}, {Name: "\xff"}}, "HOARD1\x03\x00\x00\x00\x00" + "\x01\x00\x02\x00\x00\x01\xff" + "\x07" + "\x00\x00" + "\x01"},
		// Places 8 to 0; l is 3: low bits 0 0 0, then 0 1 0; nine samples' bits, the first and the last are 1, and then 1 and 0 in one bit each.
		{"one byte eight times", []api.File{{Name: "x", Content: "zzzzzzzz"}}, "HOARD1\x01\x08\x00\x08\x00" + "\x01x" + "\x10" + "\x01\x00z\x01" + "\x00" + "\x01\x03"},
		// The text mississippi: the rows' places are 11 10 7 4 1 0 9 8 6 3 5 2, the column ipssmpissii.
		// Ends 8 and 11, l is 2: 0 0, 1 1, and 0 0 1 1 0.
		// m and p become one of 3, with i one of 7, with s all: s 0, i 10, m 110, p 111.
		// The tree: 1 1 0 0 1 1 1 0 0 1 1 of the empty beginning, 0 1 1 1 0 0 0 of 1, 1 0 1 of 11.
		// Samples: the rows 5 and 7, with 0 and 1 in one bit each.
		{"two files", []api.File{{Name: "x", Content: "mississi"}, {Name: "y", Content: "ppi"}}, "HOARD1\x02\x0b\x00\x05\x00" + "\x01x\x01y" + "\xcc\x00" + "\x04\x00i\x02m\x03p\x03s\x01" + "\x73\x76\x14" + "\xa0\x20"},
	} {
		if s := packed(t, c.files); s != sealed(c.want) {
			t.Errorf("%s: %x, want %x", c.what, s, sealed(c.want))
		}
	}
}

// edges tells files of all kinds that may just be.
func edges() map[string][]api.File {
	full := make([]string, api.MaxFiles)
	for i := range full {
		full[i] = someBytes(uint32(i), api.MaxTotal/api.MaxFiles, 30)
	}
	longest := named("x", "y")
	longest[0].Name = strings.Repeat("\x00", api.MaxName)
	longest[1].Name = strings.Repeat("\xff", api.MaxName)
	return map[string][]api.File{
		"no files":                      {},
		"one empty file":                empties(1),
		"as many empty files as may be": empties(api.MaxFiles),
		"as many files, as full":        named(full...),
		"more files than bytes":         named("", "", "a", "", "", ""),
		"as many files as bytes":        named("", "ab", "c", ""),
		"empty files around a full one": named("", someBytes(1, 77, 5), "", ""),
		"one byte":                      named("\x00"),
		"the last byte":                 named("\xff\xff", "\xff"),
		"one byte again and again":      named(strings.Repeat("z", 100), "", strings.Repeat("z", 29)),
		"one byte up to the limit":      named(strings.Repeat("a", api.MaxFile)),
		"one byte up to the total":      named(strings.Repeat("a", api.MaxFile), strings.Repeat("a", api.MaxFile)),
		"all bytes":                     named(allBytes()),
		"all bytes backwards and again": named(backwards(allBytes()), allBytes()),
		"bytes of many weights":         named(steps(76)),
		"the longest codes":             named(growing()...),
		"the longest names":             longest,
		"two bytes up to the total":     named(strings.Repeat("ab", api.MaxFile/2), strings.Repeat("ab", api.MaxFile/2)),
		"some bytes up to the total":    named(someBytes(2, api.MaxFile, 256), someBytes(3, api.MaxFile, 256)),
		"the same file twice":           named(someBytes(4, api.MaxFile, 9), someBytes(4, api.MaxFile, 9)),
	}
}

// The edges, held against the reference.
func TestEdges(t *testing.T) {
	for what, files := range edges() {
		if s, want := packed(t, files), referenceArchive(files); s != want {
			t.Errorf("%s: %x, want %x", what, s, want)
		}
	}
}

func backwards(s string) string {
	b := []byte(s)
	slices.Reverse(b)
	return string(b)
}

// steps tells a text in which the byte i stands i + 1 times.
func steps(kinds int) string {
	s := ""
	for i := range kinds {
		s += strings.Repeat(string([]byte{byte(i)}), i+1)
	}
	return s
}

// growing tells contents in which each byte stands as often as the two ahead
// of it together: so the codes become as long as they can.
func growing() []string {
	text := "ab"
	here, ahead := 2, 1
	for b := byte('c'); len(text)+here <= api.MaxTotal; b++ {
		text += strings.Repeat(string([]byte{b}), here)
		here, ahead = here+ahead, here
	}
	half := len(text) / 2
	return []string{text[:half], text[half:]}
}

// Groups of one weight: what comes first is told by the least byte in them.
func TestTies(t *testing.T) {
	for _, c := range []struct{ text, want string }{
		// a and b become one; e goes with it, not with c and d, who became one then.
		{"abcde", "\x05\x00a\x03b\x03c\x02d\x02e\x02"},
		// a with b comes ahead of c and d, being of one weight with them.
		{"abccdd", "\x04\x00a\x03b\x03c\x02d\x01"},
		// y with z comes behind a and b.
		{"aabbyz", "\x04\x00a\x02b\x02y\x02z\x02"},
		// d and a become one, and come ahead of b and c for the a in it.
		{"daabbbccc", "\x04\x00a\x03b\x02c\x01d\x03"},
		// Weights ahead of bytes: a is the heaviest, though the least.
		{"aaabbc", "\x03\x00a\x01b\x02c\x02"},
	} {
		files := named(c.text)
		s := packed(t, files)
		from := len("HOARD1") + 5 + 2 + len(endBytes(len(c.text)))
		if got := s[from : from+len(c.want)]; got != c.want {
			t.Errorf("%s: codes %x, want %x", c.text, got, c.want)
		}
		if want := referenceArchive(files); s != want {
			t.Errorf("%s: %x, want %x", c.text, s, want)
		}
	}
}

func endBytes(end int) string { return inBytes(referenceEnds([]int{end}, end)) }

// small tells every text of up to nine bytes of two kinds, in some two files.
func small() [][]api.File {
	var all [][]api.File
	for length := range 10 {
		for number := range 1 << length {
			text := strings.NewReplacer("0", "\x00", "1", "\x80").Replace(numberBits(number, length))
			cut := number % (length + 1)
			all = append(all, named(text[:cut], text[cut:]))
		}
	}
	return all
}

// many tells texts of every length and of several kinds of bytes, in several files.
func many() [][]api.File {
	var all [][]api.File
	for length := range 300 {
		text := someBytes(uint32(length), length, 1+length%41)
		var contents []string
		for count := 1 + length%13; count > 1; count-- {
			cut := len(text) / count
			contents = append(contents, text[:cut])
			text = text[cut:]
		}
		all = append(all, named(append(contents, text)...))
	}
	return all
}

func TestMany(t *testing.T) {
	for _, files := range slices.Concat(small(), many()) {
		if s, want := packed(t, files), referenceArchive(files); s != want {
			t.Fatalf("%q: %x, want %x", files, s, want)
		}
	}
}

// Two sets of files never have one archive.
func TestApart(t *testing.T) {
	seen := map[string]int{}
	for i, files := range [][]api.File{
		nil, empties(1), empties(2), {{Name: "a"}}, named("ab", ""), named("", "ab"), named("a", "b"), named("ab"), named("ba"), named("aab"), named("aba"), named("baa"), named("aab", ""), named("cab"), named("abab"), named("bbaa"),
	} {
		s := packed(t, files)
		if before, has := seen[s]; has {
			t.Errorf("cases %d and %d: %x", before, i, s)
		}
		seen[s] = i
	}
}
