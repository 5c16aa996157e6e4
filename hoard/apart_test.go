package hoard_test

import (
	"slices"
	"sync"
	"testing"

	"hoard/api"
	"hoard/hoard"
)

// lists tells lists of files of all kinds, refused ones too.
func lists() [][]api.File {
	return [][]api.File{
		nil,
		named("mississippi", ""),
		named(allBytes()),
		empties(api.MaxFiles + 1),
		named(long(api.MaxFile), someBytes(7, api.MaxFile, 200)),
		{{Name: "b"}, {Name: "a"}},
		named(growing()...),
		named("a"),
	}
}

// What was packed before is not to be seen: each list is packed behind each other.
func TestSameAnswer(t *testing.T) {
	type answer struct {
		archive string
		fault   api.Errno
	}
	var first []answer
	for _, files := range lists() {
		s, e := hoard.Pack(files)
		first = append(first, answer{s, e})
	}
	for i, before := range lists() {
		for j, files := range lists() {
			hoard.Pack(before)
			if s, e := hoard.Pack(files); (answer{s, e}) != first[j] {
				t.Errorf("list %d behind list %d: another answer", j, i)
			}
		}
	}
}

// Nor what is packed at the same time.
func TestAtOnce(t *testing.T) {
	var group sync.WaitGroup
	for i := range 16 {
		group.Add(1)
		go func() {
			defer group.Done()
			files := named(someBytes(uint32(i), 500, 20+i), "abc")
			if s, e := hoard.Pack(files); s != referenceArchive(files) || e != api.OK {
				t.Errorf("list %d: another answer", i)
			}
		}()
	}
	group.Wait()
}

// Neither the files nor the spare room behind them are written into.
func TestLeftAlone(t *testing.T) {
	for i, files := range lists() {
		room := append(slices.Clone(files), named("spare", "room", "behind")...)
		before := slices.Clone(room)
		hoard.Pack(room[:len(files)])
		if !slices.Equal(room, before) {
			t.Errorf("list %d was written into", i)
		}
	}
}

// The spare room behind the files is not packed either.
func TestSpareRoom(t *testing.T) {
	room := named("one", "two", "three")
	if got, want := packed(t, room[:1]), packed(t, named("one")); got != want {
		t.Errorf("%x, want %x", got, want)
	}
}
