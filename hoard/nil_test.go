package hoard_test

import (
	"math"
	"testing"

	"hoard/api"
	"hoard/hoard"
)

// No archive at all: empty lists, or ErrNil ahead of every other error.
func TestNilArchive(t *testing.T) {
	var none *hoard.Archive
	if list, files := none.List(), none.Unpack(); len(list) != 0 || len(files) != 0 {
		t.Errorf("List %v, Unpack %v", list, files)
	}
	for _, number := range []int{math.MinInt, -1, 0, 1, math.MaxInt} {
		if s, e := none.Extract(number, number, number); s != "" || e != api.ErrNil {
			t.Errorf("Extract of %d: %q, %d", number, s, e)
		}
		for _, pattern := range []string{"", "a", long(api.MaxTotal + 1)} {
			if places, e := none.Locate(pattern, number); len(places) != 0 || e != api.ErrNil {
				t.Errorf("Locate of %q, %d: %v, %d", pattern, number, places, e)
			}
			if count, e := none.Count(pattern); count != 0 || e != api.ErrNil {
				t.Errorf("Count of %q: %d, %d", pattern, count, e)
			}
		}
	}
}
