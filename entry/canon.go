package entry

import (
	"bytes"
	"slices"
	"strings"

	"drayage/api"
)

// Canon is a list in the one order, the first of each group as its file.
func Canon(l []api.Entry) ([]api.Entry, api.Errno) {
	if _, code := CheckAll(l); code != api.OK {
		return nil, code
	}
	out := Copy(l)
	slices.SortFunc(out, func(a, b api.Entry) int { return strings.Compare(a.Path, b.Path) })
	regroup(out)
	return out, api.OK
}

// regroup makes the first of each group the file, and the others hard links to it.
func regroup(l []api.Entry) {
	firsts := map[string]int{} // by the path of the group's file, as it was
	for i := range l {
		file, is := fileOf(l[i])
		if !is {
			continue
		}
		first, there := firsts[file]
		if !there {
			firsts[file] = i
			continue
		}
		if l[i].Kind == api.Reg {
			l[first].Kind, l[first].Link, l[first].Data = api.Reg, "", l[i].Data
		}
		l[i].Kind, l[i].Link, l[i].Data = api.Hard, l[first].Path, nil
	}
}

// fileOf is the path of the file of an entry's group, if it is in one.
func fileOf(e api.Entry) (string, bool) {
	switch e.Kind {
	case api.Reg:
		return e.Path, true
	case api.Hard:
		return e.Link, true
	}
	return "", false
}

// Same tells whether two lists have the same entries, in the same order.
func Same(a, b []api.Entry) bool {
	return slices.EqualFunc(a, b, isSame)
}

func isSame(a, b api.Entry) bool {
	return a.Path == b.Path && a.Kind == b.Kind && rightsOf(a) == rightsOf(b) && a.Link == b.Link && bytes.Equal(a.Data, b.Data)
}

// Copy is the same entries in new memory.
func Copy(l []api.Entry) []api.Entry {
	out := slices.Clone(l)
	for i := range out {
		out[i].Data = bytes.Clone(out[i].Data)
	}
	return out
}
