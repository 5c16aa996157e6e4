package hoard_test

import (
	"slices"
	"sync"
	"testing"
	"unsafe"

	"hoard/api"
	"hoard/hoard"
)

// overlap tells whether two texts stand in the same memory.
func overlap(a, b string) bool {
	if a == "" || b == "" {
		return false
	}
	from := uintptr(unsafe.Pointer(unsafe.StringData(a)))
	other := uintptr(unsafe.Pointer(unsafe.StringData(b)))
	return from < other+uintptr(len(b)) && other < from+uintptr(len(a))
}

// answers holds that an archive answers each call as that of these files must.
func answers(t *testing.T, what string, a *hoard.Archive, files []api.File) {
	t.Helper()
	holds(t, what, a, files)
	for i, f := range files {
		half := len(f.Content) / 2
		extracts(t, what, a, files, i, half, len(f.Content)-half)
	}
	for _, pattern := range []string{"a", "\x07", "ab", "nowhere", firstByte(files)} {
		finds(t, what, a, pattern, standing(files, pattern))
	}
}

// firstByte tells the byte that the text begins with, if there is one: as a
// pattern it stands somewhere.
func firstByte(files []api.File) string {
	for _, f := range files {
		if f.Content != "" {
			return f.Content[:1]
		}
	}
	return "none"
}

// overwrite writes one value all over a list, spare room and all.
func overwrite[T any](list []T, value T) {
	list = list[:cap(list)]
	for i := range list {
		list[i] = value
	}
}

// What was answered is written over, spare room and all: the next answer is as
// the first was.
func TestAnswersWrittenOver(t *testing.T) {
	for what, files := range edges() {
		a := loaded(t, packed(t, files))
		overwrite(a.List(), api.Entry{Name: "gone", Size: -1})
		overwrite(a.Unpack(), api.File{Name: "gone", Content: "gone"})
		for most := range 4 {
			places, _ := a.Locate(firstByte(files), most)
			overwrite(places, api.Place{File: -1, At: -1})
		}
		answers(t, what, a, files)
	}
}

// Of two answers of Locate, neither is written over with the other: they share
// neither places nor spare room.
func TestPlacesApart(t *testing.T) {
	for what, files := range edges() {
		a := loaded(t, packed(t, files))
		pattern := firstByte(files)
		want := standing(files, pattern)
		for _, most := range []int{0, 1, 3, len(want)} {
			first, _ := a.Locate(pattern, most)
			second, _ := a.Locate(pattern, most)
			overwrite(first, api.Place{File: -1, At: -1})
			if !slices.Equal(second, want[:min(most, len(want))]) {
				t.Errorf("%s: Locate(%q, %d): written over: %v", what, pattern, most, second)
			}
			for _, spare := range second[len(second):cap(second)] {
				if spare != (api.Place{}) {
					t.Errorf("%s: Locate(%q, %d): %v in the spare room", what, pattern, most, spare)
				}
			}
		}
	}
}

// A pattern is neither written into nor kept.
func TestPatternLeftAlone(t *testing.T) {
	for what, files := range edges() {
		a := loaded(t, packed(t, files))
		room := []byte(firstByte(files) + "spare room")
		before := slices.Clone(room)
		pattern := unsafe.String(&room[0], len(room)-len("spare room"))
		a.Count(pattern)
		a.Locate(pattern, 5)
		if !slices.Equal(room, before) {
			t.Errorf("%s: written into", what)
		}
		clear(room)
		answers(t, what, a, files)
	}
}

// Two answers share no list, and their texts no bytes: neither with each other
// nor with the bytes that were loaded.
func TestAnswersApart(t *testing.T) {
	for what, files := range edges() {
		s := packed(t, files)
		a := loaded(t, s)
		if len(files) == 0 {
			continue
		}
		first, second := a.Unpack(), a.Unpack()
		if &first[0] == &second[0] || &a.List()[0] == &a.List()[0] {
			t.Errorf("%s: one list twice", what)
		}
		texts := []string{s}
		for _, f := range slices.Concat(first, second) {
			texts = append(texts, f.Name, f.Content)
		}
		for _, entry := range slices.Concat(a.List(), a.List()) {
			texts = append(texts, entry.Name)
		}
		for i, f := range files {
			part, _ := a.Extract(i, 0, len(f.Content))
			again, _ := a.Extract(i, 0, len(f.Content))
			texts = append(texts, part, again)
		}
		for i := range texts {
			for j := range i {
				// One byte alone stands in memory that is nobody's.
				if len(texts[i]) > 1 && overlap(texts[i], texts[j]) {
					t.Fatalf("%s: texts %d and %d are in one memory", what, i, j)
				}
			}
		}
	}
}

// The bytes that were loaded may go: nothing of them is kept.
func TestBytesGone(t *testing.T) {
	for what, files := range edges() {
		room := []byte(packed(t, files))
		a := loaded(t, unsafe.String(&room[0], len(room)))
		clear(room)
		answers(t, what, a, files)
	}
}

// Nor are they written into.
func TestBytesLeftAlone(t *testing.T) {
	for what, files := range edges() {
		room := []byte(packed(t, files) + "spare room")
		before := slices.Clone(room)
		a := loaded(t, unsafe.String(&room[0], len(room)-len("spare room")))
		answers(t, what, a, files)
		if !slices.Equal(room, before) {
			t.Errorf("%s: written into", what)
		}
	}
}

// What was asked before, of which archive ever, is not to be seen; nor what was
// refused.
func TestAskedBefore(t *testing.T) {
	all := edges()
	archives := map[string]*hoard.Archive{}
	for what, files := range all {
		archives[what] = loaded(t, packed(t, files))
	}
	for range 3 {
		for what, a := range archives {
			answers(t, what, a, all[what])
			hoard.Load("HOARD1")
			hoard.Pack(all[what])
			a.Extract(0, 0, 1)
			a.Extract(-1, 0, 1)
			a.Count("")
			a.Locate("a", 1)
			a.Locate("a", -1)
			answers(t, what+", behind itself", a, all[what])
		}
	}
}

// One archive, loaded and asked by many at once.
func TestAskedAtOnce(t *testing.T) {
	files := named(someBytes(9, 2000, 40), "", someBytes(10, 500, 3))
	s := packed(t, files)
	shared := loaded(t, s)
	var group sync.WaitGroup
	for range 16 {
		group.Add(1)
		go func() {
			defer group.Done()
			own, e := hoard.Load(s)
			if e != api.OK {
				t.Errorf("refused with %d", e)
				return
			}
			answers(t, "its own", own, files)
			answers(t, "a shared one", shared, files)
		}()
	}
	group.Wait()
}
