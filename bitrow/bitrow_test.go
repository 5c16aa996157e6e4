package bitrow

import "testing"

func TestOrder(t *testing.T) {
	var row Bits
	for _, one := range []bool{true, false, false, true, false, false, false, false, false, true} {
		row.Add(one)
	}
	if got := row.Packed(); got != "\x09\x02" || row.Len() != 10 {
		t.Errorf("%x, %d bits", got, row.Len())
	}
}

func TestEmpty(t *testing.T) {
	var row Bits
	row.AddNumber(5, 0)
	row.Grow(0)
	if row.Packed() != "" || row.Len() != 0 {
		t.Errorf("%x, %d bits", row.Packed(), row.Len())
	}
}

func TestNumbers(t *testing.T) {
	var row Bits
	row.AddNumber(6, 3)
	row.AddNumber(0x1ff, 4)
	row.AddNumber(0x101, 9)
	// 0 1 1, 1 1 1 1, 1 0 0 0 0 0 0 0 1
	if got := row.Packed(); got != "\xfe\x80" || row.Len() != 16 {
		t.Errorf("%x, %d bits", got, row.Len())
	}
}

func TestGrowAndSet(t *testing.T) {
	var row Bits
	row.Add(true)
	row.Grow(16)
	row.Set(8)
	row.Set(15)
	row.Set(15)
	if got := row.Packed(); got != "\x01\x81\x00" || row.Len() != 17 {
		t.Errorf("%x, %d bits", got, row.Len())
	}
}

func TestPackedIsACopy(t *testing.T) {
	var row Bits
	row.Grow(8)
	before := row.Packed()
	row.Set(0)
	if before != "\x00" || row.Packed() != "\x01" {
		t.Errorf("%x, %x", before, row.Packed())
	}
}
