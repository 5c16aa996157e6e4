package walk

import "testing"

// A row of places, of which no tree knows: row i has the byte i of a text and
// leads to the next.
type line string

func (l line) next(row int) (byte, int) { return l[row], row + 1 }

func TestBack(t *testing.T) {
	backwards := line("olleh")
	for _, c := range []struct {
		row, count int
		want       string
	}{
		{0, 5, "hello"}, {0, 1, "o"}, {0, 0, ""}, {2, 3, "hel"}, {2, 2, "el"}, {5, 0, ""}, {-1, 0, ""},
	} {
		if got := string(Back(backwards.next, c.row, c.count)); got != c.want {
			t.Errorf("%d from row %d: %q, want %q", c.count, c.row, got, c.want)
		}
	}
}

// The step is asked just as often as bytes are wanted.
func TestBackAsks(t *testing.T) {
	asked := []int{}
	Back(func(row int) (byte, int) {
		asked = append(asked, row)
		return 0, row * 2
	}, 3, 3)
	if len(asked) != 3 || asked[0] != 3 || asked[1] != 6 || asked[2] != 12 {
		t.Errorf("%v", asked)
	}
}

// A table of rows by hand, as the text abab has them: the endings are the empty
// one, ab, abab, b, bab.
type table struct{}

func (table) longer(row int) (byte, int) {
	return []byte{'b', 'b', 0, 'a', 'a'}[row], []int{3, 4, 0, 1, 2}[row]
}

func (table) bounds(b byte, from, to int) (int, int) {
	first := map[byte]int{'a': 1, 'b': 3}[b]
	if first == 0 {
		return 5, 5
	}
	for row := range from {
		if got, _ := (table{}).longer(row); got == b {
			first++
		}
	}
	last := first
	for row := from; row < to; row++ {
		if got, _ := (table{}).longer(row); got == b {
			last++
		}
	}
	return first, last
}

func TestFind(t *testing.T) {
	for _, c := range []struct {
		pattern  string
		from, to int
	}{
		{"", 0, 5}, {"a", 1, 3}, {"b", 3, 5}, {"ab", 1, 3}, {"ba", 4, 5}, {"aba", 2, 3}, {"abab", 2, 3},
	} {
		if from, to := Find(table{}.bounds, 5, c.pattern); from != c.from || to != c.to {
			t.Errorf("%q: rows %d to %d, want %d to %d", c.pattern, from, to, c.from, c.to)
		}
	}
	for _, pattern := range []string{"aa", "bb", "babab", "ababa", "c", "ca", "ac", "abac"} {
		if from, to := Find(table{}.bounds, 5, pattern); from != to {
			t.Errorf("%q: rows %d to %d, want none", pattern, from, to)
		}
	}
}

// Of a pattern that stands nowhere no more is asked than tells that.
func TestFindAsks(t *testing.T) {
	asked := ""
	bounds := func(b byte, from, to int) (int, int) {
		asked += string([]byte{b})
		return table{}.bounds(b, from, to)
	}
	Find(bounds, 5, "abababbaba")
	if asked != "abab" {
		t.Errorf("asked of %q", asked)
	}
}

// The places 4, 2, 0, 3, 1: known of some rows alone, the root's always.
func TestPlace(t *testing.T) {
	places := []int{4, 2, 0, 3, 1}
	for known := range 1 << len(places) {
		told := func(row int) (int, bool) {
			if known>>row&1 == 0 {
				return 0, false
			}
			return places[row], true
		}
		if _, root := told(2); !root {
			continue
		}
		for row, want := range places {
			if got := Place(table{}.longer, told, row); got != want {
				t.Errorf("row %d: place %d, want %d", row, got, want)
			}
		}
	}
}

func TestRow(t *testing.T) {
	rows := []int{2, 4, 1, 3, 0}
	for reach := range 5 {
		near := func(place int) (int, int) {
			at := min(place+reach, 4)
			return rows[at], at
		}
		for place, want := range rows {
			if got := Row(table{}.longer, near, place); got != want {
				t.Errorf("place %d, from %d behind it: row %d, want %d", place, reach, got, want)
			}
		}
	}
}
