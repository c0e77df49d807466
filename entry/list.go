package entry

import (
	"iter"
	"strings"

	"drayage/api"
)

// rights is what all of a group have in common.
type rights struct {
	mode, uid, gid int
	owner, group   string
	mtime          int
}

func rightsOf(e api.Entry) rights {
	return rights{e.Mode, e.Uid, e.Gid, e.Owner, e.Group, e.Mtime}
}

// ahead is the entries that stand ahead of a place in a list.
type ahead struct {
	entries map[string]api.Entry
	above   map[string]struct{} // the paths that stand above one of the entries
}

// CheckAll tells where a list isn't right, and why.
func CheckAll(l []api.Entry) (int, api.Errno) {
	if len(l) > api.MaxEntries {
		return api.MaxEntries, api.ErrLarge
	}
	a := ahead{map[string]api.Entry{}, map[string]struct{}{}}
	for i, e := range l {
		if code := a.check(e); code != api.OK {
			return i, code
		}
		a.add(e)
	}
	return 0, api.OK
}

// check tells what is wrong with the entry that stands behind these.
func (a ahead) check(e api.Entry) api.Errno {
	if code := Check(e); code != api.OK {
		return code
	}
	if _, there := a.entries[e.Path]; there {
		return api.ErrThere
	}
	if e.Kind == api.Hard {
		file, there := a.entries[e.Link]
		if !there || file.Kind != api.Reg {
			return api.ErrOrder
		}
		if rightsOf(e) != rightsOf(file) {
			return api.ErrArg
		}
	}
	if a.isUnderOther(e) || a.isAboveOne(e) {
		return api.ErrKind
	}
	return api.OK
}

// isUnderOther tells whether something else than a directory stands above an entry.
func (a ahead) isUnderOther(e api.Entry) bool {
	for path := range above(e.Path) {
		if up, there := a.entries[path]; there && up.Kind != api.Dir {
			return true
		}
	}
	return false
}

// isAboveOne tells whether an entry stands above one of these, and is no directory.
func (a ahead) isAboveOne(e api.Entry) bool {
	_, is := a.above[e.Path]
	return is && e.Kind != api.Dir
}

// add puts an entry behind these.
func (a ahead) add(e api.Entry) {
	a.entries[e.Path] = e
	for path := range above(e.Path) {
		a.above[path] = struct{}{}
	}
}

// above is the paths that stand above a path, the nearest first. (Parent would look at all of the path each time.)
func above(path string) iter.Seq[string] {
	return func(yield func(string) bool) {
		for at := strings.LastIndexByte(path, '/'); at >= 0; at = strings.LastIndexByte(path[:at], '/') {
			if !yield(path[:at]) {
				return
			}
		}
	}
}
