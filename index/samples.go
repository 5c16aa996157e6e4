package index

import (
	"math/bits"

	"hoard/api"
	"hoard/bitrow"
)

// Samples is the places of some rows: a bit for each row, whether its place is
// told, and then these places. It stands on counted bits: how many are told
// ahead of a row tells where its own place stands.
type Samples struct {
	bitrow.Counted
	total int
}

// MakeSamples makes the row from the places of all rows.
func MakeSamples(places []int) Samples {
	var row bitrow.Writer
	for _, place := range places {
		if sampled(place) {
			row.Add(1)
		} else {
			row.Add(0)
		}
	}
	total := len(places) - 1
	width := placeWidth(total)
	for _, place := range places {
		if sampled(place) {
			row.AddNumber(place/api.Step, width)
		}
	}
	return Samples{bitrow.Count(row.Row()), total}
}

// ReadSamples reads the row of a text of total bytes from the front of some
// bytes. It is refused where it does not tell as many places as there are.
func ReadSamples(bytes string, total int) (Samples, bool) {
	told := total/api.Step + 1
	length := total + 1 + told*placeWidth(total)
	if bitrow.Size(length) > len(bytes) {
		return Samples{}, false
	}
	samples := Samples{bitrow.Count(bitrow.Read(bytes, length)), total}
	if samples.Ones(total+1) != told {
		return Samples{}, false
	}
	return samples, true
}

// Place tells a row's place, if that is told.
func (s *Samples) Place(row int) (place int, told bool) {
	if s.Bit(row) == 0 {
		return 0, false
	}
	return s.told(s.Ones(row)), true
}

// Near tells a row whose place is known, and that place: of those that are not
// ahead of a place, the first that is told; behind the last one of these, the
// text's end, for the empty ending's row is the first. The rows do not stand by
// their places: it looks through them, so that nothing more need be kept.
func (s *Samples) Near(place int) (row, at int) {
	for number := range s.Ones(s.total + 1) {
		if at := s.told(number); place <= at && at < place+api.Step {
			return s.One(number), at
		}
	}
	return 0, s.total
}

// told tells one of the places that are told, by its number from 0 on.
func (s *Samples) told(number int) int {
	width := placeWidth(s.total)
	return s.Number(s.total+1+number*width, width) * api.Step
}

func sampled(place int) bool { return place%api.Step == 0 }

// placeWidth tells how many bits the greatest sampled place of a text needs.
func placeWidth(total int) int { return bits.Len(uint(total / api.Step)) }
