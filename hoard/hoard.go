// Package hoard packs files into an index of them. See DOC.md.
package hoard

import (
	"slices"
	"strings"

	"hoard/api"
	"hoard/index"
	"hoard/walk"
)

// Pack packs files (P3, P4).
func Pack(files []api.File) (string, api.Errno) {
	if fault := check(files); fault != api.OK {
		return "", fault
	}
	return archive(files), api.OK
}

// Archive is an archive that was loaded.
type Archive struct {
	names   []string
	ends    index.Ends
	rows    index.Rows
	samples index.Samples
}

// Load loads an archive (P5). Bytes that can be read need not be an archive
// yet: they are, if they are what Pack makes of the files that come out.
func Load(s string) (*Archive, api.Errno) {
	a, ok := read(s)
	if !ok {
		return nil, api.ErrBytes
	}
	again, fault := Pack(a.Unpack())
	if fault != api.OK || again != s {
		return nil, api.ErrBytes
	}
	return a, api.OK
}

// List tells the files' names and sizes (P6).
func (a *Archive) List() []api.Entry {
	if a == nil {
		return nil
	}
	entries := make([]api.Entry, len(a.names))
	for i, name := range a.names {
		from, to := a.ends.File(i)
		entries[i] = api.Entry{Name: strings.Clone(name), Size: to - from}
	}
	return entries
}

// Unpack gives all files back (P7).
func (a *Archive) Unpack() []api.File {
	if a == nil {
		return nil
	}
	// The empty ending's row is the first, and all of the text is ahead of it.
	text := walk.Back(a.rows.Longer, 0, a.rows.Total())
	files := make([]api.File, len(a.names))
	for i, name := range a.names {
		from, to := a.ends.File(i)
		files[i] = api.File{Name: strings.Clone(name), Content: string(text[from:to])}
	}
	return files
}

// Extract gives a part of a file (P8).
func (a *Archive) Extract(file int, at int, n int) (string, api.Errno) {
	if a == nil {
		return "", api.ErrNil
	}
	if file < 0 || file >= len(a.names) {
		return "", api.ErrRange
	}
	from, to := a.ends.File(file)
	// What is left behind at, rather than at plus n, which may wrap round.
	if at < 0 || n < 0 || n > to-from-at {
		return "", api.ErrRange
	}
	return a.part(from+at+n, n), api.OK
}

// Count tells how often a pattern is there (P9).
func (a *Archive) Count(pattern string) (int, api.Errno) {
	if a == nil {
		return 0, api.ErrNil
	}
	if pattern == "" {
		return 0, api.ErrPattern
	}
	return len(a.places(pattern)), api.OK
}

// Locate tells the first places where a pattern is (P10).
func (a *Archive) Locate(pattern string, most int) ([]api.Place, api.Errno) {
	if a == nil {
		return nil, api.ErrNil
	}
	if pattern == "" || most < 0 {
		return nil, api.ErrPattern
	}
	places := a.places(pattern)
	return slices.Clone(places[:min(most, len(places))]), api.OK
}
