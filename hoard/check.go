package hoard

import "hoard/api"

// check tells why files may not be packed (P3).
func check(files []api.File) api.Errno {
	if len(files) > api.MaxFiles {
		return api.ErrMany
	}
	total := 0
	ahead := ""
	for _, file := range files {
		if fault := checkFile(file, ahead); fault != api.OK {
			return fault
		}
		ahead = file.Name
		total += len(file.Content)
	}
	if total > api.MaxTotal {
		return api.ErrTotal
	}
	return api.OK
}

// checkFile tells why a file may not be packed behind the name ahead of it.
// Ahead of the first file stands the empty name: it is below every name.
func checkFile(file api.File, ahead string) api.Errno {
	switch {
	case file.Name == "" || len(file.Name) > api.MaxName:
		return api.ErrName
	case file.Name <= ahead:
		return api.ErrOrder
	case len(file.Content) > api.MaxFile:
		return api.ErrBig
	}
	return api.OK
}
