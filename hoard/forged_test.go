package hoard_test

import (
	"maps"
	"slices"
	"strings"
	"testing"

	"hoard/api"
	"hoard/hoard"
)

// The sum of all that is forged here is right.

// sheet is the files most forgeries are made of: the text mississippi, of which
// pack_test.go tells the archive by hand.
func sheet() []api.File {
	return []api.File{{Name: "x", Content: "mississi"}, {Name: "y", Content: "ppi"}}
}

func TestForgedParts(t *testing.T) {
	for what, forge := range map[string]func(*parts){
		"another mark":                  func(p *parts) { p.mark = "HOARD2" },
		"a mark in small letters":       func(p *parts) { p.mark = "hoard1" },
		"no mark":                       func(p *parts) { p.mark = "" },
		"no files":                      func(p *parts) { p.files = "\x00" },
		"a file fewer":                  func(p *parts) { p.files = "\x01" },
		"a file more":                   func(p *parts) { p.files = "\x03" },
		"as many files as may be":       func(p *parts) { p.files = "\x28" },
		"the most files":                func(p *parts) { p.files = "\xff" },
		"no bytes":                      func(p *parts) { p.total = "\x00\x00" },
		"a byte fewer":                  func(p *parts) { p.total = "\x0a\x00" },
		"a byte more":                   func(p *parts) { p.total = "\x0c\x00" },
		"the high byte first":           func(p *parts) { p.total = "\x00\x0b" },
		"the greatest total":            func(p *parts) { p.total = "\xff\xff" },
		"the first row is the root's":   func(p *parts) { p.root = "\x00\x00" },
		"the row ahead is the root's":   func(p *parts) { p.root = "\x04\x00" },
		"the row behind is the root's":  func(p *parts) { p.root = "\x06\x00" },
		"the last row is the root's":    func(p *parts) { p.root = "\x0b\x00" },
		"a row past the last":           func(p *parts) { p.root = "\x0c\x00" },
		"the greatest root":             func(p *parts) { p.root = "\xff\xff" },
		"no name":                       func(p *parts) { p.names = "\x00\x01y" },
		"no name behind":                func(p *parts) { p.names = "\x01x\x00" },
		"no names at all":               func(p *parts) { p.names = "" },
		"one name twice":                func(p *parts) { p.names = "\x01x\x01x" },
		"names out of order":            func(p *parts) { p.names = "\x01y\x01x" },
		"a beginning behind":            func(p *parts) { p.names = "\x02xy\x01x" },
		"a name too long":               func(p *parts) { p.names = "\x21" + long(33) + "\x01y" },
		"a name far too long":           func(p *parts) { p.names = "\xff" + long(255) + "\x01y" },
		"a name past the end":           func(p *parts) { p.names = "\xff" },
		"a last name past the end":      func(p *parts) { p.names = "\x01x\xffy" },
		"no ends":                       func(p *parts) { p.ends = "" },
		"ends of noughts":               func(p *parts) { p.ends = "\x00\x00" },
		"ends of ones":                  func(p *parts) { p.ends = "\xff\xff" },
		"ends a byte longer":            func(p *parts) { p.ends += "\x00" },
		"bits behind the ends":          func(p *parts) { p.ends = "\xcc\x02" },
		"all bits behind the ends":      func(p *parts) { p.ends = "\xcc\xfe" },
		"no end of the second":          func(p *parts) { p.ends = "\x4c\x00" },
		"an end more":                   func(p *parts) { p.ends = "\xec\x00" },
		"an end past the total":         func(p *parts) { p.ends = "\x4c\x01" },
		"the last end below the total":  func(p *parts) { p.ends = "\xc8\x00" },
		"the first end above the last":  func(p *parts) { p.ends = inBytes("11" + "01" + "00110") },
		"no codes":                      func(p *parts) { p.codes = "\x00\x00" },
		"no number of codes":            func(p *parts) { p.codes = "" },
		"a code fewer":                  func(p *parts) { p.codes = "\x03\x00i\x02m\x03p\x03" },
		"a number of codes too low":     func(p *parts) { p.codes = "\x03\x00i\x02m\x03p\x03s\x01" },
		"a number of codes too high":    func(p *parts) { p.codes = "\x05\x00i\x02m\x03p\x03s\x01" },
		"the greatest number of codes":  func(p *parts) { p.codes = "\xff\xff" + p.codes[2:] },
		"bytes in another order":        func(p *parts) { p.codes = "\x04\x00m\x03i\x02p\x03s\x01" },
		"a byte twice":                  func(p *parts) { p.codes = "\x05\x00i\x02i\x02m\x03p\x03s\x01" },
		"a byte twice, once otherwise":  func(p *parts) { p.codes = "\x05\x00i\x01i\x02m\x03p\x03s\x01" },
		"a byte of length 0 more":       func(p *parts) { p.codes = "\x05\x00a\x00i\x02m\x03p\x03s\x01" },
		"a length 0":                    func(p *parts) { p.codes = "\x04\x00i\x00m\x03p\x03s\x01" },
		"a length too great":            func(p *parts) { p.codes = "\x04\x00i\x02m\x03p\x04s\x01" },
		"a length too small":            func(p *parts) { p.codes = "\x04\x00i\x02m\x02p\x03s\x01" },
		"the greatest length":           func(p *parts) { p.codes = "\x04\x00i\x02m\x03p\xffs\x01" },
		"the greatest lengths":          func(p *parts) { p.codes = "\x04\x00i\xffm\xffp\xffs\xff" },
		"lengths around 64":             func(p *parts) { p.codes = "\x04\x00i\x40m\x41p\x3fs\x01" },
		"i and s exchanged":             func(p *parts) { p.codes = "\x04\x00i\x01m\x03p\x03s\x02" },
		"all lengths 2":                 func(p *parts) { p.codes = "\x04\x00i\x02m\x02p\x02s\x02" },
		"a byte out of its order":       func(p *parts) { p.codes = "\x04\x00q\x02m\x03p\x03s\x01" },
		"no tree":                       func(p *parts) { p.tree = "" },
		"a tree of noughts":             func(p *parts) { p.tree = "\x00\x00\x00" },
		"a tree of ones":                func(p *parts) { p.tree = "\xff\xff\xff" },
		"a tree a byte shorter":         func(p *parts) { p.tree = p.tree[:2] },
		"a tree a byte longer":          func(p *parts) { p.tree += "\x00" },
		"bits behind the tree":          func(p *parts) { p.tree = "\x73\x76\x34" },
		"all bits behind the tree":      func(p *parts) { p.tree = "\x73\x76\xf4" },
		"no samples":                    func(p *parts) { p.samples = "" },
		"samples of noughts":            func(p *parts) { p.samples = "\x00\x00" },
		"samples of ones":               func(p *parts) { p.samples = "\xff\xff" },
		"samples a byte longer":         func(p *parts) { p.samples += "\x00" },
		"bits behind the samples":       func(p *parts) { p.samples = "\xa0\x60" },
		"the samples' places exchanged": func(p *parts) { p.samples = "\xa0\x10" },
		"one place twice":               func(p *parts) { p.samples = "\xa0\x30" },
		"no other place than 0":         func(p *parts) { p.samples = "\xa0\x00" },
		"another row sampled":           func(p *parts) { p.samples = "\xc0\x20" },
		"a row more sampled":            func(p *parts) { p.samples = "\xa1\x20" },
		"a row fewer sampled":           func(p *parts) { p.samples = "\x20\x20" },
	} {
		p := referenceParts(sheet())
		before := p
		forge(&p)
		if p == before {
			t.Errorf("%s: nothing forged", what)
		}
		refuse(t, what, p.sealed())
	}
	if s := referenceParts(sheet()).sealed(); s != packed(t, sheet()) {
		t.Errorf("what was forged was no archive: %x", s)
	}
}

// What would be the archive of files, if they might be packed.
func TestForgedLimits(t *testing.T) {
	big := long(api.MaxFile)
	for what, files := range map[string][]api.File{
		"a file too many":        empties(api.MaxFiles + 1),
		"the most files":         empties(255),
		"a file too big":         named(big + "n"),
		"a file far too big":     named(someBytes(1, api.MaxTotal, 100)),
		"a total too great":      named(big, big, "n"),
		"a total far too great":  named(big, big, big, big, big),
		"no name":                {{Content: "abc"}},
		"no name, no content":    {{}},
		"a name too long":        {{Name: long(api.MaxName + 1), Content: "abc"}},
		"the longest of names":   {{Name: long(255), Content: "abc"}},
		"the same name":          {{Name: "a"}, {Name: "a", Content: "abc"}},
		"a lesser name":          {{Name: "b", Content: "abc"}, {Name: "a"}},
		"names turned at 128":    {{Name: "\x80"}, {Name: "\x7f"}},
		"a beginning behind":     {{Name: "ab"}, {Name: "a"}},
		"the third out of order": {{Name: "a"}, {Name: "c"}, {Name: "b"}},
	} {
		refuse(t, what, referenceArchive(files))
	}
}

// ofCodes tells what the archive of some files would be, had their bytes codes
// of these lengths: the tree goes by them.
func ofCodes(files []api.File, lengths map[byte]int) string {
	text := ""
	for _, f := range files {
		text += f.Content
	}
	p := referenceParts(files)
	codes := canonical(lengths)
	column, _ := referenceColumn(text, referencePlaces(text))
	p.codes = toldCodes(codes)
	p.tree = inBytes(referenceTree(column, codes))
	return p.sealed()
}

// The files would come out of all of these; but they have another archive.
func TestForgedCodes(t *testing.T) {
	for what, c := range map[string]struct {
		text    string
		lengths map[byte]int
	}{
		"i and s exchanged":               {"mississippi", map[byte]int{'i': 1, 's': 2, 'm': 3, 'p': 3}},
		"all of one length":               {"mississippi", map[byte]int{'i': 2, 's': 2, 'm': 2, 'p': 2}},
		"the commonest has the longest":   {"mississippi", map[byte]int{'m': 1, 'p': 2, 's': 3, 'i': 3}},
		"a code that no byte has":         {"mississippi", map[byte]int{'i': 2, 's': 1, 'm': 3, 'p': 4, 'z': 4}},
		"many codes that no byte has":     {"ab", map[byte]int{'a': 2, 'b': 2, 'c': 3, 'd': 3, 'e': 4, 'f': 4, 'g': 4, 'h': 4}},
		"a code beside a byte alone":      {"aaaa", map[byte]int{'a': 1, 'b': 1}},
		"a code ahead of a byte alone":    {"bbbb", map[byte]int{'a': 1, 'b': 1}},
		"a longer code of a byte alone":   {"aaaa", map[byte]int{'a': 2}},
		"codes of no text":                {"", map[byte]int{'a': 1}},
		"two codes of no text":            {"", map[byte]int{'a': 1, 'b': 1}},
		"of one weight, the greater less": {"abc", map[byte]int{'a': 1, 'b': 2, 'c': 2}},
		"codes that are not full":         {"abc", map[byte]int{'a': 2, 'b': 2, 'c': 2}},
		"codes all longer":                {"ab", map[byte]int{'a': 2, 'b': 2}},
	} {
		refuse(t, what, ofCodes(named(c.text), c.lengths))
	}
	for _, text := range []string{"mississippi", "aaaa", "abc", ""} {
		if s := ofCodes(named(text), referenceLengths(text)); s != packed(t, named(text)) {
			t.Errorf("%s: what was forged was no archive: %x", text, s)
		}
	}
}

// Columns that no text has: going from row to row, some are never come to.
func TestForgedColumn(t *testing.T) {
	for what, c := range map[string]struct {
		column string
		root   int
	}{
		"the last row leads to itself":         {"01", 1},
		"the empty ending's row is the root's": {"0011", 0},
		"the last of many leads to itself":     {"10001", 1},
		"a row between leads to itself":        {"0101", 4},
		"two rows lead to each other":          {"1010", 3},
	} {
		refuse(t, what, ofColumn(c.column, c.root))
	}
}

// A root that is none of the rows: the way leads to the last one at once, and
// with it past the column, were the root not looked at.
func TestForgedRoot(t *testing.T) {
	p := referenceParts(named("10000000"))
	p.tree = inBytes("10000000")
	for _, root := range []int{9, 10, 255, 256, 0xffff} {
		p.root = lowFirst(root, 2)
		refuse(t, "no row", p.sealed())
	}
}

// Not all that is forged is no archive: files have it that have other bytes,
// names or ends, and it is theirs.
func TestForgedIntoOthers(t *testing.T) {
	for what, c := range map[string]struct {
		forge func(*parts)
		want  []api.File
	}{
		"another byte":  {func(p *parts) { p.codes = "\x04\x00i\x02m\x03p\x03t\x01" }, []api.File{{Name: "x", Content: "mittitti"}, {Name: "y", Content: "ppi"}}},
		"other names":   {func(p *parts) { p.names = "\x01\x00\x02\x00\x00" }, []api.File{{Name: "\x00", Content: "mississi"}, {Name: "\x00\x00", Content: "ppi"}}},
		"another end":   {func(p *parts) { p.ends = inBytes("00" + "11" + "10010") }, []api.File{{Name: "x"}, {Name: "y", Content: "mississippi"}}},
		"the same ends": {func(p *parts) { p.ends = inBytes("11" + "11" + "00110") }, []api.File{{Name: "x", Content: "mississippi"}, {Name: "y"}}},
	} {
		p := referenceParts(sheet())
		c.forge(&p)
		holds(t, what, loaded(t, p.sealed()), c.want)
	}
}

// Samples of a long text: each place told, in turn, otherwise.
func TestForgedSamples(t *testing.T) {
	files := named(someBytes(5, 100, 4))
	good := referenceSamples(referencePlaces(files[0].Content))
	p := referenceParts(files)
	for i := range good {
		p.samples = inBytes(turned(good, i))
		refuse(t, "a bit turned", p.sealed())
		for j := range i {
			p.samples = inBytes(turned(turned(good, i), j))
			refuse(t, "two bits turned", p.sealed())
		}
	}
}

func turned(bits string, at int) string {
	return bits[:at] + string('0'+'1'-rune(bits[at])) + bits[at+1:]
}

// Each byte made each other, and bytes put in and taken out: what is loaded then
// is the archive of what comes out. Most are refused; that some are not, is
// told by names and bytes that others may stand for.
func TestForgedBytes(t *testing.T) {
	taken := 0
	for _, files := range [][]api.File{nil, empties(2), named("a"), named("ab", ""), named("zzzzzzzz"), sheet(), named("abcabcabd", "x", "abab")} {
		s := packed(t, files)
		body := s[:len(s)-4]
		for i := range body {
			for b := range 256 {
				here := string([]byte{byte(b)})
				taken += hold(t, body[:i]+here+body[i+1:])
				taken += hold(t, body[:i]+here+body[i:])
			}
			for j := i + 1; j <= len(body); j++ {
				taken += hold(t, body[:i]+body[j:])
				taken += hold(t, body[:j]+body[i:])
			}
		}
	}
	if taken == 0 {
		t.Error("nothing was loaded")
	}
}

// hold tells 1 if some bytes with their sum are loaded, and holds that they are
// an archive then.
func hold(t *testing.T, body string) int {
	t.Helper()
	s := sealed(body)
	a, e := hoard.Load(s)
	if e != api.OK {
		refuse(t, "forged", s)
		return 0
	}
	files := a.Unpack()
	if expected(files) != api.OK || referenceArchive(files) != s {
		t.Fatalf("%x is no archive of %q", s, files)
	}
	return 1
}

// Bits turned all over an archive, up to eight at a time.
func TestForgedBits(t *testing.T) {
	all := edges()
	for seed, what := range slices.Sorted(maps.Keys(all)) {
		s := packed(t, all[what])
		for try := range 60 {
			body := []byte(s[:len(s)-4])
			picks := someBytes(uint32(seed*1000+try), 4*8, 256)
			for k := range 1 + try%8 {
				pick := int(picks[4*k]) | int(picks[4*k+1])<<8 | int(picks[4*k+2])<<16
				body[pick/8%len(body)] ^= 1 << (pick % 8)
			}
			hold(t, string(body))
		}
	}
}

// Any bytes at all: Load ends, and does not panic.
func TestAnyBytes(t *testing.T) {
	fields := "HOARD1\xff\xff\xff\xff\xff"
	for what, s := range map[string]string{
		"none":                             "",
		"one":                              "H",
		"the mark":                         "HOARD1",
		"a sum":                            "\x00\x00\x00\x00",
		"the sum of none":                  sealed(""),
		"the sum of the mark":              sealed("HOARD1"),
		"the greatest fields":              fields,
		"the greatest fields and ones":     fields + strings.Repeat("\xff", 100000),
		"the greatest fields and noughts":  fields + strings.Repeat("\x00", 100000),
		"the greatest fields with a sum":   sealed(fields + strings.Repeat("\xff", 100000)),
		"no files, the greatest total":     sealed("HOARD1\x00\xff\xff\xff\xff" + strings.Repeat("\xff", 100000)),
		"many files, no bytes":             sealed("HOARD1\xff\x00\x00\x00\x00" + strings.Repeat("\x01a", 255) + strings.Repeat("\xff", 100)),
		"the same byte":                    strings.Repeat("x", 1<<20),
		"an archive twice":                 strings.Repeat(referenceArchive(nil), 2),
		"an archive far on":                strings.Repeat("\x00", 5000) + referenceArchive(nil),
		"much behind a beginning":          referenceArchive(named(someBytes(1, 3000, 50)))[:1500] + strings.Repeat("\xff", 1<<24),
		"codes as long as they can be":     sealed("HOARD1\x01\xff\xff\x00\x00\x01a" + strings.Repeat("\xff", 8193) + allCodes("\xff") + strings.Repeat("\x00", 70000)),
		"all codes of eight bits":          sealed("HOARD1\x01\xff\xff\x00\x00\x01a" + strings.Repeat("\xff", 8193) + allCodes("\x08") + strings.Repeat("\x00", 90000)),
		"all codes and the greatest total": greatest(),
	} {
		refuse(t, what, s)
	}
}

func allCodes(length string) string {
	s := "\x00\x01"
	for b := range 256 {
		s += string([]byte{byte(b)}) + length
	}
	return s
}

// greatest tells bytes with every number at its greatest, in which each part
// can be read.
func greatest() string {
	ends := make([]int, 255)
	for i := range ends {
		ends[i] = 0xffff
	}
	return sealed("HOARD1\xff\xff\xff\xff\xff" + strings.Repeat("\xff"+long(255), 255) + inBytes(referenceEnds(ends, 0xffff)) + allCodes("\x08") + strings.Repeat("\xff", 0xffff) + strings.Repeat("\x01", 8192) + strings.Repeat("\xff", 8192*13/8))
}

// Bytes as they fall, with and without the mark and a sum.
func TestRandomBytes(t *testing.T) {
	for seed := range 20000 {
		s := someBytes(uint32(seed), seed%300, 256)
		refuse(t, "as they fall", s)
		refuse(t, "with a mark", "HOARD1"+s)
		hold(t, "HOARD1"+s)
		// Small numbers lead further in.
		hold(t, "HOARD1\x01"+string([]byte{byte(seed % 20), 0, byte(seed % 7), 0, 1})+s)
	}
}

// FuzzLoad holds of any bytes, with their sum behind, that they are refused or an archive.
func FuzzLoad(f *testing.F) {
	for _, files := range [][]api.File{nil, empties(3), named("a"), named("ab", ""), named("zzzzzzzzz"), sheet(), named(someBytes(1, 100, 9))} {
		s := referenceArchive(files)
		f.Add(s[:len(s)-4])
	}
	f.Fuzz(func(t *testing.T, body string) {
		hoard.Load(body)
		hold(t, body)
	})
}
