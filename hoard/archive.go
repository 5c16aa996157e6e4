package hoard

import (
	"strings"

	"hoard/api"
	"hoard/codes"
	"hoard/index"
	"hoard/rows"
	"hoard/sum"
)

const mark = "HOARD1"

// archive tells the archive of files that may be packed (P4).
func archive(files []api.File) string {
	text, ends := joinFiles(files)
	places := rows.Sort(text)
	lengths := codes.Measure(text)
	endBits := index.MakeEnds(ends, len(text))
	tree := index.MakeTree(rows.Column(text, places), lengths)
	samples := index.MakeSamples(places)

	out := []byte(mark)
	out = append(out, byte(len(files)))
	out = addNumber(out, len(text), 2)
	out = addNumber(out, rows.Root(places), 2)
	out = addNames(out, files)
	out = append(out, endBits.Packed()...)
	out = addLengths(out, lengths)
	out = append(out, tree.Packed()...)
	out = append(out, samples.Packed()...)
	out = addNumber(out, int(sum.Of(out)), 4)
	return string(out)
}

// joinFiles tells the text, and where in it each file ends.
func joinFiles(files []api.File) (string, []int) {
	var text strings.Builder
	ends := make([]int, len(files))
	for i, file := range files {
		text.WriteString(file.Content)
		ends[i] = text.Len()
	}
	return text.String(), ends
}

// addNumber adds a number of so many bytes, the low byte first.
func addNumber(out []byte, number, width int) []byte {
	for i := range width {
		out = append(out, byte(number>>(8*i)))
	}
	return out
}

func addNames(out []byte, files []api.File) []byte {
	for _, file := range files {
		out = append(out, byte(len(file.Name)))
		out = append(out, file.Name...)
	}
	return out
}

func addLengths(out []byte, lengths codes.Lengths) []byte {
	coded := lengths.Bytes()
	out = addNumber(out, len(coded), 2)
	for _, b := range coded {
		out = append(out, b, byte(lengths[b]))
	}
	return out
}
