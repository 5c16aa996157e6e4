// Package sum tells the sum that an archive ends with.
package sum

const (
	polynomial = 0xEDB88320
	turn       = 0xFFFFFFFF
)

// Of tells the CRC-32 of some bytes. It goes bit by bit: an archive is too
// short for a table to be worth making.
func Of(bytes []byte) uint32 {
	sum := uint32(turn)
	for _, b := range bytes {
		sum ^= uint32(b)
		for range 8 {
			low := sum & 1
			sum >>= 1
			if low == 1 {
				sum ^= polynomial
			}
		}
	}
	return sum ^ turn
}
