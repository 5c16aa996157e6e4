package hoard_test

import (
	"hash/crc32"
	"slices"
	"sort"
	"strings"

	"hoard/api"
)

// What stands here works an archive out a second time, by the document's words
// alone: bits are texts of 0 and 1, codes too, and nothing is made quick.

// parts is what an archive is put together from, in its order: but for the sum.
type parts struct {
	mark, files, total, root, names, ends, codes, tree, samples string
}

func (p parts) sealed() string {
	return sealed(p.mark + p.files + p.total + p.root + p.names + p.ends + p.codes + p.tree + p.samples)
}

func referenceArchive(files []api.File) string { return referenceParts(files).sealed() }

func referenceParts(files []api.File) parts {
	text := ""
	var ends []int
	names := ""
	for _, f := range files {
		text += f.Content
		ends = append(ends, len(text))
		names += lowFirst(len(f.Name), 1) + f.Name
	}
	places := referencePlaces(text)
	column, root := referenceColumn(text, places)
	codes := referenceCodes(text)
	return parts{
		mark:    "HOARD1",
		files:   lowFirst(len(files), 1),
		total:   lowFirst(len(text), 2),
		root:    lowFirst(root, 2),
		names:   names,
		ends:    inBytes(referenceEnds(ends, len(text))),
		codes:   toldCodes(codes),
		tree:    inBytes(referenceTree(column, codes)),
		samples: inBytes(referenceSamples(places)),
	}
}

func referenceColumn(text string, places []int) (column string, root int) {
	for row, place := range places {
		if place == 0 {
			root = row
		} else {
			column += text[place-1 : place]
		}
	}
	return column, root
}

func toldCodes(codes map[byte]string) string {
	s := lowFirst(len(codes), 2)
	for b := range 256 {
		if code, has := codes[byte(b)]; has {
			s += string([]byte{byte(b), byte(len(code))})
		}
	}
	return s
}

// sealed tells some bytes with their sum behind.
func sealed(s string) string {
	return s + lowFirst(int(crc32.ChecksumIEEE([]byte(s))), 4)
}

func lowFirst(number, bytes int) string {
	b := make([]byte, bytes)
	for i := range b {
		b[i] = byte(number >> (8 * i))
	}
	return string(b)
}

func inBytes(bits string) string {
	b := make([]byte, (len(bits)+7)/8)
	for i := range len(bits) {
		if bits[i] == '1' {
			b[i/8] |= 1 << (i % 8)
		}
	}
	return string(b)
}

func numberBits(number, width int) string {
	bits := ""
	for range width {
		bits += string(rune('0' + number%2))
		number /= 2
	}
	return bits
}

func referencePlaces(text string) []int {
	places := make([]int, len(text)+1)
	for i := range places {
		places[i] = i
	}
	sort.Slice(places, func(a, b int) bool { return text[places[a]:] < text[places[b]:] })
	return places
}

func referenceCodes(text string) map[byte]string { return canonical(referenceLengths(text)) }

func referenceLengths(text string) map[byte]int {
	type group struct {
		weight int
		bytes  string
	}
	lengths := map[byte]int{}
	var groups []group
	for b := range 256 {
		one := string([]byte{byte(b)})
		if weight := strings.Count(text, one); weight > 0 {
			groups = append(groups, group{weight, one})
			lengths[byte(b)] = 0
		}
	}
	least := func(g group) byte { return slices.Min([]byte(g.bytes)) }
	if len(groups) == 1 {
		lengths[groups[0].bytes[0]] = 1
	}
	for len(groups) > 1 {
		sort.Slice(groups, func(i, j int) bool {
			if groups[i].weight != groups[j].weight {
				return groups[i].weight < groups[j].weight
			}
			return least(groups[i]) < least(groups[j])
		})
		both := group{groups[0].weight + groups[1].weight, groups[0].bytes + groups[1].bytes}
		for i := range len(both.bytes) {
			lengths[both.bytes[i]]++
		}
		groups = append([]group{both}, groups[2:]...)
	}
	return lengths
}

func canonical(lengths map[byte]int) map[byte]string {
	codes := map[byte]string{}
	ahead := ""
	for length := 1; length < 64; length++ {
		for b := range 256 {
			if lengths[byte(b)] == length {
				if ahead != "" {
					ahead = plusOne(ahead)
				}
				ahead += strings.Repeat("0", length-len(ahead))
				codes[byte(b)] = ahead
			}
		}
	}
	return codes
}

// plusOne counts a row of bits on by one, its highest bit first.
func plusOne(code string) string {
	last := strings.LastIndexByte(code, '0')
	return code[:last] + "1" + strings.Repeat("0", len(code)-last-1)
}

func referenceEnds(ends []int, n int) string {
	m := len(ends)
	l := 0
	for k := range 20 {
		if m > 0 && m*(1<<k) <= n {
			l = k
		}
	}
	bits := ""
	for _, e := range ends {
		bits += numberBits(e, l)
	}
	high := []byte(strings.Repeat("0", m+n/(1<<l)+1))
	for i, e := range ends {
		high[e/(1<<l)+i] = '1'
	}
	return bits + string(high)
}

func referenceTree(column string, codes map[byte]string) string {
	has := map[string]bool{}
	for _, code := range codes {
		for i := range len(code) {
			has[code[:i]] = true
		}
	}
	var beginnings []string
	for beginning := range has {
		beginnings = append(beginnings, beginning)
	}
	sort.Slice(beginnings, func(i, j int) bool {
		a, b := beginnings[i], beginnings[j]
		return len(a) < len(b) || len(a) == len(b) && a < b
	})
	var bits strings.Builder
	for _, beginning := range beginnings {
		for i := range len(column) {
			if code := codes[column[i]]; strings.HasPrefix(code, beginning) {
				bits.WriteByte(code[len(beginning)])
			}
		}
	}
	return bits.String()
}

func referenceSamples(places []int) string {
	w := 0
	for 1<<w <= (len(places)-1)/api.Step {
		w++
	}
	marks, numbers := "", ""
	for _, place := range places {
		if place%api.Step == 0 {
			marks += "1"
			numbers += numberBits(place/api.Step, w)
		} else {
			marks += "0"
		}
	}
	return marks + numbers
}
