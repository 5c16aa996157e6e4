package index

import (
	"math/bits"

	"hoard/api"
	"hoard/bitrow"
)

// Samples is the places of some rows: a bit for each row, whether its place is
// told, and then these places.
type Samples struct {
	bitrow.Bits
}

// MakeSamples makes the row from the places of all rows.
func MakeSamples(places []int) Samples {
	var row Samples
	for _, place := range places {
		row.Add(sampled(place))
	}
	width := placeWidth(len(places) - 1)
	for _, place := range places {
		if sampled(place) {
			row.AddNumber(place/api.Step, width)
		}
	}
	return row
}

func sampled(place int) bool { return place%api.Step == 0 }

// placeWidth tells how many bits the greatest sampled place of a text needs.
func placeWidth(total int) int { return bits.Len(uint(total / api.Step)) }
