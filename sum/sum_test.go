package sum

import (
	"hash/crc32"
	"testing"
)

func TestKnown(t *testing.T) {
	for text, want := range map[string]uint32{"": 0, "\x00": 0xD202EF8D, "123456789": 0xCBF43926} {
		if got := Of([]byte(text)); got != want {
			t.Errorf("%q: %08x, want %08x", text, got, want)
		}
	}
}

func TestAgainstLibrary(t *testing.T) {
	var bytes []byte
	for i := range 600 {
		bytes = append(bytes, byte(i*i/3))
		if got, want := Of(bytes), crc32.ChecksumIEEE(bytes); got != want {
			t.Fatalf("%d bytes: %08x, want %08x", len(bytes), got, want)
		}
	}
}
