package ar

import (
	"cmp"
	"strconv"
	"strings"

	"drayage/api"
	"drayage/codec"
)

const (
	magic   = "!<arch>\n" // ahead of all members
	headEnd = "`\n"
	blank   = " "
	filler  = '\n' // behind a member of odd many bytes
)

// Names in a head that say where the name is.
const (
	tableName  = "//"  // the member is the table of names
	tableMark  = "/"   // a place in the table is behind it
	aheadMark  = "#1/" // the length of a name, ahead of the bytes, is behind it
	gnuEnd     = "/"   // behind a name in the head
	tabledEnd  = "/\n" // behind a name in the table
	mostInHead = 16    // bytes of a name that has room in the head
)

// The places in a head where the fields behind the name begin.
const (
	timePlace = mostInHead
	uidPlace  = timePlace + 12
	gidPlace  = uidPlace + 6
	modePlace = gidPlace + 6
	sizePlace = modePlace + 8
	endPlace  = sizePlace + 10
	headSize  = endPlace + len(headEnd)
)

// head is a member's head: its fields, without the blanks that fill them up.
type head struct {
	name, mtime, uid, gid, mode, size string
}

// headOf is the head that stands in a text of as many bytes as one has.
func headOf(s string) head {
	field := func(from, to int) string {
		return strings.TrimRight(s[from:to], blank)
	}
	return head{
		name:  field(0, timePlace),
		mtime: field(timePlace, uidPlace),
		uid:   field(uidPlace, gidPlace),
		gid:   field(gidPlace, modePlace),
		mode:  field(modePlace, sizePlace),
		size:  field(sizePlace, endPlace),
	}
}

// text is a head as it stands in an archive.
func (h head) text() string {
	s := fill(h.name, timePlace)
	s = fill(s+h.mtime, uidPlace)
	s = fill(s+h.uid, gidPlace)
	s = fill(s+h.gid, modePlace)
	s = fill(s+h.mode, sizePlace)
	return fill(s+h.size, endPlace) + headEnd
}

// fill is a text, filled up with blanks.
func fill(s string, size int) string {
	return s + strings.Repeat(blank, size-len(s))
}

// headFor is the head of an item whose name the head tells so, with so many bytes behind it.
func headFor(x api.Item, name string, size int) head {
	return head{
		name:  name,
		mtime: codec.Dec(x.Mtime),
		uid:   codec.Dec(x.Uid),
		gid:   codec.Dec(x.Gid),
		mode:  octal(x.Mode),
		size:  codec.Dec(size),
	}
}

// item is what a head tells of an item beside its name.
func (h head) item() (api.Item, api.Errno) {
	mtime, noTime := codec.Undec(h.mtime)
	uid, noUid := codec.Undec(h.uid)
	gid, noGid := codec.Undec(h.gid)
	mode, noMode := unoctal(h.mode)
	// The fields have too few bytes for what Undec calls too large: it is ErrForm, if one is none.
	if code := cmp.Or(noTime, noUid, noGid, noMode); code != api.OK {
		return api.Item{}, code
	}
	return api.Item{Mtime: mtime, Uid: uid, Gid: gid, Mode: mode}, api.OK
}

// octal is a number's octal digits, without noughts ahead. (Octal of codec has noughts.)
func octal(n int) string {
	return strconv.FormatInt(int64(n), 8)
}

// unoctal is the number whose octal digits s is. (Unoctal of codec takes noughts and others, too.)
func unoctal(s string) (int, api.Errno) {
	n, code := codec.Unoctal(s)
	if code != api.OK || octal(n) != s {
		return 0, api.ErrForm
	}
	return n, api.OK
}
