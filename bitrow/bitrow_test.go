package bitrow

import "testing"

// row makes a row from a text of 0 and 1.
func row(bits string) Bits {
	var w Writer
	for i := range len(bits) {
		w.Add(int(bits[i] - '0'))
	}
	return w.Row()
}

func TestOrder(t *testing.T) {
	bits := row("1001000001")
	if got := bits.Packed(); got != "\x09\x02" || bits.Len() != 10 {
		t.Errorf("%x, %d bits", got, bits.Len())
	}
}

func TestEmpty(t *testing.T) {
	var w Writer
	w.AddNumber(5, 0)
	w.Grow(0)
	bits := w.Row()
	if bits.Packed() != "" || bits.Len() != 0 || w.Len() != 0 {
		t.Errorf("%x, %d bits", bits.Packed(), bits.Len())
	}
}

func TestNumbers(t *testing.T) {
	var w Writer
	w.AddNumber(6, 3)
	w.AddNumber(0x1ff, 4)
	w.AddNumber(0x101, 9)
	// 0 1 1, 1 1 1 1, 1 0 0 0 0 0 0 0 1
	bits := w.Row()
	if got := bits.Packed(); got != "\xfe\x80" || bits.Len() != 16 {
		t.Errorf("%x, %d bits", got, bits.Len())
	}
	for _, c := range []struct{ at, width, want int }{{0, 3, 6}, {3, 4, 15}, {7, 9, 0x101}, {0, 16, 0x80fe}, {4, 0, 0}, {16, 0, 0}, {15, 1, 1}} {
		if got := bits.Number(c.at, c.width); got != c.want {
			t.Errorf("%d bits from %d on: %x, want %x", c.width, c.at, got, c.want)
		}
	}
}

func TestGrowAndSet(t *testing.T) {
	var w Writer
	w.Add(1)
	w.Grow(16)
	w.Set(8)
	w.Set(15)
	w.Set(15)
	bits := w.Row()
	if got := bits.Packed(); got != "\x01\x81\x00" || bits.Len() != 17 || w.Len() != 17 {
		t.Errorf("%x, %d bits", got, bits.Len())
	}
}

func TestRowIsACopy(t *testing.T) {
	var w Writer
	w.Grow(8)
	before := w.Row()
	w.Set(0)
	w.Add(1)
	after := w.Row()
	if before.Packed() != "\x00" || before.Len() != 8 || after.Packed() != "\x01\x01" || after.Len() != 9 {
		t.Errorf("%x, %x", before.Packed(), after.Packed())
	}
}

func TestSize(t *testing.T) {
	for length, want := range map[int]int{0: 0, 1: 1, 7: 1, 8: 1, 9: 2, 16: 2, 17: 3} {
		if got := Size(length); got != want {
			t.Errorf("%d bits: %d bytes, want %d", length, got, want)
		}
	}
}

// A row takes no more bytes than it needs.
func TestRead(t *testing.T) {
	for _, c := range []struct {
		bytes  string
		length int
		bits   string
		packed string
	}{
		{"", 0, "", ""},
		{"\xff", 0, "", ""},
		{"\x05\xff", 4, "1010", "\x05"},
		{"\x05\x81\xff", 16, "1010000010000001", "\x05\x81"},
		{"\x05\x81\x02\xff", 18, "101000001000000101", "\x05\x81\x02"},
	} {
		bits := Read(c.bytes, c.length)
		got := ""
		for i := range bits.Len() {
			got += string(rune('0' + bits.Bit(i)))
		}
		if got != c.bits || bits.Packed() != c.packed {
			t.Errorf("%x: %s, %x", c.bytes, got, bits.Packed())
		}
	}
}
