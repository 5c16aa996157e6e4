package index

import (
	"math/bits"

	"hoard/api"
	"hoard/bitrow"
)

// Samples is the places of some rows: a bit for each row, whether its place is
// told, and then these places. It stands on counted bits: how many are told
// ahead of a row tells where its own place stands.
type Samples struct {
	bitrow.Counted
}

// MakeSamples makes the row from the places of all rows.
func MakeSamples(places []int) Samples {
	var row bitrow.Writer
	for _, place := range places {
		if sampled(place) {
			row.Add(1)
		} else {
			row.Add(0)
		}
	}
	width := placeWidth(len(places) - 1)
	for _, place := range places {
		if sampled(place) {
			row.AddNumber(place/api.Step, width)
		}
	}
	return Samples{bitrow.Count(row.Row())}
}

// ReadSamples reads the row of a text of total bytes from the front of some
// bytes. It is refused where it does not tell as many places as there are.
func ReadSamples(bytes string, total int) (Samples, bool) {
	told := total/api.Step + 1
	length := total + 1 + told*placeWidth(total)
	if bitrow.Size(length) > len(bytes) {
		return Samples{}, false
	}
	samples := Samples{bitrow.Count(bitrow.Read(bytes, length))}
	if samples.Ones(total+1) != told {
		return Samples{}, false
	}
	return samples, true
}

func sampled(place int) bool { return place%api.Step == 0 }

// placeWidth tells how many bits the greatest sampled place of a text needs.
func placeWidth(total int) int { return bits.Len(uint(total / api.Step)) }
