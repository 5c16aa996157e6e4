package hoard

import (
	"slices"

	"hoard/api"
	"hoard/walk"
)

// part tells some bytes of the text, up to a place.
func (a *Archive) part(to, count int) string {
	row := walk.Row(a.rows.Longer, a.samples.Near, to)
	return string(walk.Back(a.rows.Longer, row, count))
}

// places tells where in the files a pattern stands, in the files' order.
func (a *Archive) places(pattern string) []api.Place {
	var places []api.Place
	for _, place := range a.inText(pattern) {
		file := a.ends.Holder(place)
		from, to := a.ends.File(file)
		if len(pattern) <= to-place {
			places = append(places, api.Place{File: file, At: place - from})
		}
	}
	return places
}

// inText tells where in the text a pattern stands, over a file's end too, the
// lesser places first.
func (a *Archive) inText(pattern string) []int {
	from, to := walk.Find(a.rows.Bounds, a.rows.Total()+1, pattern)
	places := make([]int, to-from)
	for i := range places {
		places[i] = walk.Place(a.rows.Longer, a.samples.Place, from+i)
	}
	slices.Sort(places)
	return places
}
