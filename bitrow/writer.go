package bitrow

// Writer makes a row of bits. The bits behind the last one stay 0, so that a
// row has just one form in bytes.
type Writer struct {
	bytes  []byte
	length int
}

// Len tells how many bits there are by now.
func (w *Writer) Len() int { return w.length }

// Grow adds bits that are 0.
func (w *Writer) Grow(count int) {
	w.length += count
	for len(w.bytes) < Size(w.length) {
		w.bytes = append(w.bytes, 0)
	}
}

// Set makes a bit that is there 1.
func (w *Writer) Set(at int) {
	w.bytes[at/8] |= 1 << (at % 8)
}

// Add adds a bit, 0 or 1.
func (w *Writer) Add(bit int) {
	w.Grow(1)
	if bit == 1 {
		w.Set(w.length - 1)
	}
}

// AddNumber adds the lowest bits of a number, the lowest first.
func (w *Writer) AddNumber(number, width int) {
	for i := range width {
		w.Add(number >> i & 1)
	}
}

// Row tells the row as it is by now; what is added later is not in it.
func (w *Writer) Row() Bits { return Bits{string(w.bytes), w.length} }
