package hoard_test

import (
	"slices"
	"testing"

	"hoard/api"
	"hoard/hoard"
)

// loaded loads what is an archive.
func loaded(t *testing.T, s string) *hoard.Archive {
	t.Helper()
	a, e := hoard.Load(s)
	if a == nil || e != api.OK {
		t.Fatalf("%d bytes refused with %d", len(s), e)
	}
	return a
}

// refuse holds that some bytes are no archive.
func refuse(t *testing.T, what string, s string) {
	t.Helper()
	if a, e := hoard.Load(s); a != nil || e != api.ErrBytes {
		t.Errorf("%s: loaded, or refused with %d: %x", what, e, s[:min(len(s), 100)])
	}
}

func entries(files []api.File) []api.Entry {
	var all []api.Entry
	for _, f := range files {
		all = append(all, api.Entry{Name: f.Name, Size: len(f.Content)})
	}
	return all
}

// holds holds that an archive lists and unpacks just these files.
func holds(t *testing.T, what string, a *hoard.Archive, files []api.File) {
	t.Helper()
	if got := a.List(); !slices.Equal(got, entries(files)) {
		t.Errorf("%s: listed %v", what, got)
	}
	if got := a.Unpack(); !slices.Equal(got, files) {
		t.Errorf("%s: unpacked %.200q", what, got)
	}
}

// The second archive of the document's section Examples, byte by byte.
func TestLoadExample(t *testing.T) {
	a := loaded(t, "HOARD1\x02\x02\x00\x01\x00"+"\x01a\x01b"+"\x0c"+"\x02\x00a\x01b\x01"+"\x01"+"\x02"+"\xca\x87\x83\x14")
	holds(t, "a and b", a, []api.File{{Name: "a", Content: "ab"}, {Name: "b"}})
	holds(t, "no files", loaded(t, "HOARD1\x00\x00\x00\x00\x00"+"\x00"+"\x00\x00"+"\x01"+"\x5a\xc8\x70\xe3"), nil)
}

func TestLoadEdges(t *testing.T) {
	for what, files := range edges() {
		holds(t, what, loaded(t, packed(t, files)), files)
		holds(t, what+", by the reference", loaded(t, referenceArchive(files)), files)
	}
}

func TestLoadMany(t *testing.T) {
	for _, files := range slices.Concat(small(), many()) {
		holds(t, "one of many", loaded(t, packed(t, files)), files)
	}
}

// What came out goes in again.
func TestLoadTwice(t *testing.T) {
	for what, files := range edges() {
		s := packed(t, files)
		if again := packed(t, loaded(t, s).Unpack()); again != s {
			t.Errorf("%s: another archive", what)
		}
	}
}

// A text of so few bytes has one sample alone, at the root's row: so here are
// all bytes that could be archives of one file of two kinds of bytes. Just as
// many as there are such files are, and all files come out.
func TestEveryColumn(t *testing.T) {
	for length := 2; length < api.Step; length++ {
		texts := map[string]int{}
		for number := range 1 << length {
			column := numberBits(number, length)
			for root := range length + 1 {
				s := ofColumn(column, root)
				a, e := hoard.Load(s)
				if e != api.OK {
					refuse(t, column, s)
					continue
				}
				text := a.Unpack()[0].Content
				texts[text]++
				if s != referenceArchive(named(text)) {
					t.Fatalf("%s with root %d is not the archive of %s", column, root, text)
				}
			}
		}
		// One kind of byte alone has other codes: these are not among them.
		if len(texts) != 1<<length-2 {
			t.Errorf("%d texts of %d bytes, want %d", len(texts), length, 1<<length-2)
		}
	}
}

// ofColumn tells what the archive of one file would be, had its text this
// column, of bytes 0 and 1, and this root.
func ofColumn(column string, root int) string {
	p := referenceParts(named(numberBits(1, len(column))))
	p.root = lowFirst(root, 2)
	p.tree = inBytes(column)
	p.samples = inBytes(numberBits(1<<root, len(column)+1))
	return p.sealed()
}

// An archive that nobody loaded has no files, and can be asked.
func TestEmptyArchive(t *testing.T) {
	a := new(hoard.Archive)
	answers(t, "made by new", a, nil)
	if s, e := a.Extract(0, 0, 0); s != "" || e != api.ErrRange {
		t.Errorf("Extract: %q, %d", s, e)
	}
}
