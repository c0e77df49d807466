package entry_test

import (
	"reflect"
	"slices"
	"strings"
	"testing"

	"drayage/api"
	"drayage/entry"
)

// isAbove tells whether a path stands above another one.
func isAbove(up, path string) bool {
	return len(path) > len(up) && path[:len(up)] == up && path[len(up)] == '/'
}

// hardError is what the chapter says of a hard link and the file that it is another name of.
func hardError(aheadOf []api.Entry, e api.Entry) api.Errno {
	for _, file := range aheadOf {
		if file.Kind != api.Reg || file.Path != e.Link {
			continue
		}
		if e.Mode == file.Mode && e.Uid == file.Uid && e.Gid == file.Gid && e.Owner == file.Owner && e.Group == file.Group && e.Mtime == file.Mtime {
			return api.OK
		}
		return api.ErrArg
	}
	return api.ErrOrder
}

// listError is what the chapter says of a list, each entry held against all ahead of it.
func listError(l []api.Entry) (int, api.Errno) {
	if len(l) > 4096 {
		return 4096, api.ErrLarge
	}
	for i, e := range l {
		if code := checkError(e); code != api.OK {
			return i, code
		}
		for _, other := range l[:i] {
			if other.Path == e.Path {
				return i, api.ErrThere
			}
		}
		if e.Kind == api.Hard {
			if code := hardError(l[:i], e); code != api.OK {
				return i, code
			}
		}
		for _, other := range l[:i] {
			if isAbove(other.Path, e.Path) && other.Kind != api.Dir || isAbove(e.Path, other.Path) && e.Kind != api.Dir {
				return i, api.ErrKind
			}
		}
	}
	return 0, api.OK
}

// groupOf is the file of an entry's group, and the least path of the group.
func groupOf(l []api.Entry, e api.Entry) (file api.Entry, least string) {
	path := e.Path
	if e.Kind == api.Hard {
		path = e.Link
	}
	least = path
	for _, other := range l {
		if other.Path == path {
			file = other
		}
		if other.Kind == api.Hard && other.Link == path && other.Path < least {
			least = other.Path
		}
	}
	return file, least
}

// canonOf is a right list in the one order.
func canonOf(l []api.Entry) []api.Entry {
	out := slices.Clone(l)
	for i, e := range l {
		if e.Kind != api.Reg && e.Kind != api.Hard {
			continue
		}
		file, least := groupOf(l, e)
		out[i].Kind, out[i].Link, out[i].Data = api.Reg, "", file.Data
		if e.Path != least {
			out[i].Kind, out[i].Link, out[i].Data = api.Hard, least, nil
		}
	}
	for i := range out {
		for k := i; k > 0 && isBehind(out[k-1].Path, out[k].Path); k-- {
			out[k-1], out[k] = out[k], out[k-1]
		}
	}
	return out
}

// isBehind tells whether a path stands behind another one, byte by byte.
func isBehind(a, b string) bool {
	for i := range min(len(a), len(b)) {
		if a[i] != b[i] {
			return a[i] > b[i]
		}
	}
	return len(a) > len(b)
}

// areAlike holds lists against each other, field by field.
func areAlike(a, b []api.Entry) bool {
	return slices.EqualFunc(a, b, func(x, y api.Entry) bool {
		if string(x.Data) != string(y.Data) {
			return false
		}
		x.Data, y.Data = nil, nil
		return reflect.DeepEqual(x, y)
	})
}

// checkList holds what is told of a list against what should be.
func checkList(t *testing.T, l []api.Entry, at int, want api.Errno) {
	t.Helper()
	if got, code := entry.CheckAll(l); got != at || code != want {
		t.Errorf("%s: %d %d, not %d %d", told(l), got, code, at, want)
	}
	out, code := entry.Canon(l)
	if code != want {
		t.Errorf("%s: Canon answers %d, not %d", told(l), code, want)
	}
	if want != api.OK {
		if len(out) > 0 {
			t.Errorf("%s: beside %d stand %d entries", told(l), code, len(out))
		}
		return
	}
	if right := canonOf(l); !areAlike(out, right) {
		t.Errorf("%s: Canon is %s, not %s", told(l), told(out), told(right))
	}
	if _, code := entry.CheckAll(out); code != api.OK {
		t.Errorf("%s: Canon isn't right: %s", told(l), told(out))
	}
	if again, code := entry.Canon(out); code != api.OK || !areAlike(out, again) {
		t.Errorf("%s: Canon's Canon is %d %s, not %s", told(l), code, told(again), told(out))
	}
}

// told is a list's paths, kinds and links.
func told(l []api.Entry) string {
	var b strings.Builder
	for i, e := range l {
		if i == 20 {
			b.WriteString(" ..")
			break
		}
		b.WriteString(" " + e.Path + "?-/@="[min(max(e.Kind, 0), 4):][:1] + e.Link)
	}
	return "[" + b.String() + " ]"
}

// asModel holds what is told of a list against the model.
func asModel(t *testing.T, l []api.Entry) api.Errno {
	t.Helper()
	at, want := listError(l)
	checkList(t, l, at, want)
	return want
}
