// Package codes gives the bytes of a text their codes: the more often a byte
// stands there, the shorter its code.
package codes

import (
	"cmp"
	"slices"
)

// Lengths tells the length of each byte's code, 0 for a byte that has none.
type Lengths [256]int

// most is the length that no code may pass: up to here codes are numbers that
// do not wrap round, and only a text of millions of bytes has one as long.
const most = 32

// group is some bytes that share the beginning of their codes.
type group struct {
	weight  int
	least   byte
	members []byte
}

func (g group) compare(h group) int {
	return cmp.Or(cmp.Compare(g.weight, h.weight), cmp.Compare(g.least, h.least))
}

func join(g, h group) group {
	return group{g.weight + h.weight, min(g.least, h.least), slices.Concat(g.members, h.members)}
}

// Measure works the lengths out from how often the text has each byte.
func Measure(text string) Lengths {
	groups := singles(text)
	var lengths Lengths
	if len(groups) == 1 {
		lengths[groups[0].least] = 1
	}
	for len(groups) > 1 {
		first := takeFirst(&groups)
		second := takeFirst(&groups)
		both := join(first, second)
		for _, b := range both.members {
			lengths[b]++
		}
		groups = append(groups, both)
	}
	return lengths
}

// singles makes a group of each byte that the text has.
func singles(text string) []group {
	var weights [256]int
	for i := range len(text) {
		weights[text[i]]++
	}
	var groups []group
	for b, weight := range weights {
		if weight > 0 {
			groups = append(groups, group{weight, byte(b), []byte{byte(b)}})
		}
	}
	return groups
}

// takeFirst takes the group that comes first out of some groups.
func takeFirst(groups *[]group) group {
	first := 0
	for i, g := range *groups {
		if g.compare((*groups)[first]) < 0 {
			first = i
		}
	}
	taken := (*groups)[first]
	*groups = slices.Delete(*groups, first, first+1)
	return taken
}

// Bytes tells which bytes have a code, the lesser first.
func (l Lengths) Bytes() []byte {
	var bytes []byte
	for b, length := range l {
		if length > 0 {
			bytes = append(bytes, byte(b))
		}
	}
	return bytes
}

// Order tells which bytes have a code, by the codes' lengths, those of one
// length by their numbers.
func (l Lengths) Order() []byte {
	order := l.Bytes()
	slices.SortStableFunc(order, func(a, b byte) int { return cmp.Compare(l[a], l[b]) })
	return order
}

// Longest tells the length of the longest code.
func (l Lengths) Longest() int { return slices.Max(l[:]) }

// Whole tells whether codes have such lengths: together they take up all that
// can follow, none of it twice. Only a byte that is alone leaves half of it.
func (l Lengths) Whole() bool {
	coded := l.Bytes()
	if len(coded) == 0 {
		return true
	}
	if len(coded) == 1 {
		return l[coded[0]] == 1
	}
	if l.Longest() > most {
		return false
	}
	taken := uint64(0)
	for _, b := range coded {
		taken += 1 << (most - l[b])
	}
	return taken == 1<<most
}

// Code is a row of bits, as a number: its highest bit comes first.
type Code struct {
	Number uint
	Length int
}

// Bit tells a bit of the code, 0 or 1, by its number from 0 on.
func (c Code) Bit(at int) int { return int(c.Number >> (c.Length - 1 - at) & 1) }

// Table is the code of each byte; one of length 0 is none.
type Table [256]Code

// Assign gives the codes that go with the lengths.
func Assign(lengths Lengths) Table {
	var table Table
	var next Code
	for i, b := range lengths.Order() {
		longer := lengths[b] - next.Length
		if i > 0 {
			next.Number++
		}
		next = Code{next.Number << longer, lengths[b]}
		table[b] = next
	}
	return table
}
