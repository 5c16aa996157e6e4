package hoard_test

import (
	"slices"
	"sync"
	"testing"
	"unsafe"

	"hoard/api"
	"hoard/hoard"
)

// overlap tells whether two texts stand in the same memory.
func overlap(a, b string) bool {
	if a == "" || b == "" {
		return false
	}
	from := uintptr(unsafe.Pointer(unsafe.StringData(a)))
	other := uintptr(unsafe.Pointer(unsafe.StringData(b)))
	return from < other+uintptr(len(b)) && other < from+uintptr(len(a))
}

// What was answered is written over, spare room and all: the next answer is as
// the first was.
func TestAnswersWrittenOver(t *testing.T) {
	for what, files := range edges() {
		a := loaded(t, packed(t, files))
		list, all := a.List(), a.Unpack()
		list, all = list[:cap(list)], all[:cap(all)]
		for i := range list {
			list[i] = api.Entry{Name: "gone", Size: -1}
		}
		for i := range all {
			all[i] = api.File{Name: "gone", Content: "gone"}
		}
		holds(t, what, a, files)
	}
}

// Two answers share no list, and their texts no bytes: neither with each other
// nor with the bytes that were loaded.
func TestAnswersApart(t *testing.T) {
	for what, files := range edges() {
		s := packed(t, files)
		a := loaded(t, s)
		if len(files) == 0 {
			continue
		}
		first, second := a.Unpack(), a.Unpack()
		if &first[0] == &second[0] || &a.List()[0] == &a.List()[0] {
			t.Errorf("%s: one list twice", what)
		}
		texts := []string{s}
		for _, f := range slices.Concat(first, second) {
			texts = append(texts, f.Name, f.Content)
		}
		for _, entry := range slices.Concat(a.List(), a.List()) {
			texts = append(texts, entry.Name)
		}
		for i := range texts {
			for j := range i {
				// One byte alone stands in memory that is nobody's.
				if len(texts[i]) > 1 && overlap(texts[i], texts[j]) {
					t.Fatalf("%s: texts %d and %d are in one memory", what, i, j)
				}
			}
		}
	}
}

// The bytes that were loaded may go: nothing of them is kept.
func TestBytesGone(t *testing.T) {
	for what, files := range edges() {
		room := []byte(packed(t, files))
		a := loaded(t, unsafe.String(&room[0], len(room)))
		clear(room)
		holds(t, what, a, files)
	}
}

// Nor are they written into.
func TestBytesLeftAlone(t *testing.T) {
	for what, files := range edges() {
		room := []byte(packed(t, files) + "spare room")
		before := slices.Clone(room)
		a := loaded(t, unsafe.String(&room[0], len(room)-len("spare room")))
		a.List()
		a.Unpack()
		if !slices.Equal(room, before) {
			t.Errorf("%s: written into", what)
		}
	}
}

// What was asked before, of which archive ever, is not to be seen; nor what was
// refused.
func TestAskedBefore(t *testing.T) {
	all := edges()
	archives := map[string]*hoard.Archive{}
	for what, files := range all {
		archives[what] = loaded(t, packed(t, files))
	}
	for range 3 {
		for what, a := range archives {
			holds(t, what, a, all[what])
			hoard.Load("HOARD1")
			hoard.Pack(all[what])
			a.Extract(0, 0, 1)
			a.Count("a")
			a.Locate("a", 1)
			holds(t, what+", behind itself", a, all[what])
		}
	}
}

// One archive, loaded and asked by many at once.
func TestAskedAtOnce(t *testing.T) {
	files := named(someBytes(9, 2000, 40), "", someBytes(10, 500, 3))
	s := packed(t, files)
	shared := loaded(t, s)
	var group sync.WaitGroup
	for range 16 {
		group.Add(1)
		go func() {
			defer group.Done()
			own, e := hoard.Load(s)
			if e != api.OK {
				t.Errorf("refused with %d", e)
				return
			}
			holds(t, "its own", own, files)
			holds(t, "a shared one", shared, files)
		}()
	}
	group.Wait()
}
