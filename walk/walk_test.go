package walk

import "testing"

// A row of places, of which no tree knows: row i has the byte i of a text and
// leads to the next.
type line string

func (l line) next(row int) (byte, int) { return l[row], row + 1 }

func TestBack(t *testing.T) {
	backwards := line("olleh")
	for _, c := range []struct {
		row, count int
		want       string
	}{
		{0, 5, "hello"}, {0, 1, "o"}, {0, 0, ""}, {2, 3, "hel"}, {2, 2, "el"}, {5, 0, ""}, {-1, 0, ""},
	} {
		if got := string(Back(backwards.next, c.row, c.count)); got != c.want {
			t.Errorf("%d from row %d: %q, want %q", c.count, c.row, got, c.want)
		}
	}
}

// The step is asked just as often as bytes are wanted.
func TestBackAsks(t *testing.T) {
	asked := []int{}
	Back(func(row int) (byte, int) {
		asked = append(asked, row)
		return 0, row * 2
	}, 3, 3)
	if len(asked) != 3 || asked[0] != 3 || asked[1] != 6 || asked[2] != 12 {
		t.Errorf("%v", asked)
	}
}
