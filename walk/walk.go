// Package walk goes from row to row, by a step that is handed to it: what the
// step stands on, it does not know.
package walk

// Step tells a row's byte, and the row whose ending is longer by it.
type Step func(row int) (byte, int)

// Back tells the bytes that stand ahead of a row's ending, as many as asked for.
func Back(step Step, row, count int) []byte {
	bytes := make([]byte, count)
	for i := count - 1; i >= 0; i-- {
		bytes[i], row = step(row)
	}
	return bytes
}
