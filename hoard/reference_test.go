package hoard_test

import (
	"hash/crc32"
	"slices"
	"sort"
	"strings"

	"hoard/api"
)

// What stands here works an archive out a second time, by the document's words
// alone: bits are texts of 0 and 1, codes too, and nothing is made quick.

func referenceArchive(files []api.File) string {
	text := ""
	var ends []int
	for _, f := range files {
		text += f.Content
		ends = append(ends, len(text))
	}
	places := referencePlaces(text)
	column := ""
	root := 0
	for row, place := range places {
		if place == 0 {
			root = row
		} else {
			column += text[place-1 : place]
		}
	}
	codes := referenceCodes(text)
	s := "HOARD1" + string([]byte{byte(len(files))}) + lowFirst(len(text), 2) + lowFirst(root, 2)
	for _, f := range files {
		s += lowFirst(len(f.Name), 1) + f.Name
	}
	s += inBytes(referenceEnds(ends, len(text)))
	s += lowFirst(len(codes), 2)
	for b := range 256 {
		if code, has := codes[byte(b)]; has {
			s += string([]byte{byte(b), byte(len(code))})
		}
	}
	s += inBytes(referenceTree(column, codes))
	s += inBytes(referenceSamples(places))
	return sealed(s)
}

// sealed tells some bytes with their sum behind.
func sealed(s string) string {
	return s + lowFirst(int(crc32.ChecksumIEEE([]byte(s))), 4)
}

func lowFirst(number, bytes int) string {
	b := make([]byte, bytes)
	for i := range b {
		b[i] = byte(number >> (8 * i))
	}
	return string(b)
}

func inBytes(bits string) string {
	b := make([]byte, (len(bits)+7)/8)
	for i := range len(bits) {
		if bits[i] == '1' {
			b[i/8] |= 1 << (i % 8)
		}
	}
	return string(b)
}

func numberBits(number, width int) string {
	bits := ""
	for range width {
		bits += string(rune('0' + number%2))
		number /= 2
	}
	return bits
}

func referencePlaces(text string) []int {
	places := make([]int, len(text)+1)
	for i := range places {
		places[i] = i
	}
	sort.Slice(places, func(a, b int) bool { return text[places[a]:] < text[places[b]:] })
	return places
}

func referenceCodes(text string) map[byte]string {
	type group struct {
		weight int
		bytes  string
	}
	lengths := map[byte]int{}
	var groups []group
	for b := range 256 {
		one := string([]byte{byte(b)})
		if weight := strings.Count(text, one); weight > 0 {
			groups = append(groups, group{weight, one})
			lengths[byte(b)] = 0
		}
	}
	least := func(g group) byte { return slices.Min([]byte(g.bytes)) }
	if len(groups) == 1 {
		lengths[groups[0].bytes[0]] = 1
	}
	for len(groups) > 1 {
		sort.Slice(groups, func(i, j int) bool {
			if groups[i].weight != groups[j].weight {
				return groups[i].weight < groups[j].weight
			}
			return least(groups[i]) < least(groups[j])
		})
		both := group{groups[0].weight + groups[1].weight, groups[0].bytes + groups[1].bytes}
		for i := range len(both.bytes) {
			lengths[both.bytes[i]]++
		}
		groups = append([]group{both}, groups[2:]...)
	}
	codes := map[byte]string{}
	ahead := ""
	for length := 1; length < 64; length++ {
		for b := range 256 {
			if lengths[byte(b)] == length {
				if ahead != "" {
					ahead = plusOne(ahead)
				}
				ahead += strings.Repeat("0", length-len(ahead))
				codes[byte(b)] = ahead
			}
		}
	}
	return codes
}

// plusOne counts a row of bits on by one, its highest bit first.
func plusOne(code string) string {
	last := strings.LastIndexByte(code, '0')
	return code[:last] + "1" + strings.Repeat("0", len(code)-last-1)
}

func referenceEnds(ends []int, n int) string {
	m := len(ends)
	l := 0
	for k := range 20 {
		if m > 0 && m*(1<<k) <= n {
			l = k
		}
	}
	bits := ""
	for _, e := range ends {
		bits += numberBits(e, l)
	}
	high := []byte(strings.Repeat("0", m+n/(1<<l)+1))
	for i, e := range ends {
		high[e/(1<<l)+i] = '1'
	}
	return bits + string(high)
}

func referenceTree(column string, codes map[byte]string) string {
	has := map[string]bool{}
	for _, code := range codes {
		for i := range len(code) {
			has[code[:i]] = true
		}
	}
	var beginnings []string
	for beginning := range has {
		beginnings = append(beginnings, beginning)
	}
	sort.Slice(beginnings, func(i, j int) bool {
		a, b := beginnings[i], beginnings[j]
		return len(a) < len(b) || len(a) == len(b) && a < b
	})
	var bits strings.Builder
	for _, beginning := range beginnings {
		for i := range len(column) {
			if code := codes[column[i]]; strings.HasPrefix(code, beginning) {
				bits.WriteByte(code[len(beginning)])
			}
		}
	}
	return bits.String()
}

func referenceSamples(places []int) string {
	w := 0
	for 1<<w <= (len(places)-1)/api.Step {
		w++
	}
	marks, numbers := "", ""
	for _, place := range places {
		if place%api.Step == 0 {
			marks += "1"
			numbers += numberBits(place/api.Step, w)
		} else {
			marks += "0"
		}
	}
	return marks + numbers
}
