package hoard

import (
	"strings"

	"hoard/codes"
	"hoard/index"
	"hoard/sum"
)

// reader takes an archive's parts from the front of some bytes. Where a part is
// not there, it is bad from then on, and all further parts are empty.
type reader struct {
	rest string
	bad  bool
}

// read reads an archive from bytes that may be any. What it tells can be asked
// without harm, but need not be the archive of some files.
func read(s string) (*Archive, bool) {
	r := reader{rest: s}
	r.need(r.take(len(mark)) == mark)
	files, total, root := r.number(1), r.number(2), r.number(2)
	r.need(root <= total)
	var a Archive
	a.names = r.names(files)
	a.ends = r.ends(files, total)
	a.rows = index.MakeRows(r.tree(total, r.lengths()), root)
	a.samples = r.samples(total)
	r.sum(s)
	return &a, !r.bad
}

func (r *reader) need(held bool) {
	if !held {
		r.rest, r.bad = "", true
	}
}

// take takes so many bytes.
func (r *reader) take(count int) string {
	r.need(count <= len(r.rest))
	if r.bad {
		return ""
	}
	taken := r.rest[:count]
	r.rest = r.rest[count:]
	return taken
}

// number takes a number of so many bytes, the low byte first.
func (r *reader) number(width int) int {
	number := 0
	for i, b := range []byte(r.take(width)) {
		number |= int(b) << (8 * i)
	}
	return number
}

// names takes the names, as copies: the bytes that are read are not kept.
func (r *reader) names(files int) []string {
	names := make([]string, files)
	for i := range names {
		names[i] = strings.Clone(r.take(r.number(1)))
	}
	return names
}

func (r *reader) ends(files, total int) index.Ends {
	ends, ok := index.ReadEnds(r.rest, files, total)
	r.need(ok)
	r.take(len(ends.Packed()))
	return ends
}

func (r *reader) lengths() codes.Lengths {
	var lengths codes.Lengths
	for range r.number(2) {
		pair := r.take(2)
		if r.bad {
			break
		}
		lengths[pair[0]] = int(pair[1])
	}
	return lengths
}

func (r *reader) tree(total int, lengths codes.Lengths) index.Tree {
	tree, ok := index.ReadTree(r.rest, total, lengths)
	r.need(ok)
	r.take(len(tree.Packed()))
	return tree
}

func (r *reader) samples(total int) index.Samples {
	samples, ok := index.ReadSamples(r.rest, total)
	r.need(ok)
	r.take(len(samples.Packed()))
	return samples
}

// sum takes the sum of all the bytes that were read, of which it is the last.
// It is looked at here, though Pack would tell it again: so that most bytes that
// are no archive are refused before their files are packed.
func (r *reader) sum(s string) {
	told := r.number(4)
	r.need(r.rest == "")
	if r.bad {
		return
	}
	r.need(uint32(told) == sum.Of([]byte(s[:len(s)-4])))
}
