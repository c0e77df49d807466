package tar

import (
	"strings"

	"drayage/api"
	"drayage/codec"
	"drayage/entry"
)

// The names of heads that stand ahead of an entry's.
const (
	gnuName = "././@LongLink"
	paxName = "PaxHeaders"
)

// Write is an archive.
func Write(l []api.Entry, style int) ([]byte, api.Errno) {
	if style < Ustar || style > Pax {
		return nil, api.ErrArg
	}
	if _, code := entry.CheckAll(l); code != api.OK {
		return nil, code
	}
	var out []byte
	for _, e := range l {
		switch style {
		case Ustar:
			h, fits := ustarHead(e)
			if !fits {
				return nil, api.ErrName
			}
			out = appendMember(out, h, e.Data)
		case Gnu:
			out = appendGnu(out, e)
		case Pax:
			out = appendPax(out, e)
		}
	}
	return append(out, make([]byte, 2*blockSize)...), api.OK
}

// headFor is the head of an entry, with the whole name in its field.
func headFor(e api.Entry, magic string) head {
	name := e.Path
	if e.Kind == api.Dir {
		name += dirEnd
	}
	return head{
		name:  name,
		mode:  e.Mode,
		uid:   e.Uid,
		gid:   e.Gid,
		mtime: e.Mtime,
		kind:  typeOf(e.Kind),
		link:  e.Link,
		magic: magic,
		owner: e.Owner,
		group: e.Group,
	}
}

// ustarHead is the head of an entry, if there is room for its texts.
func ustarHead(e api.Entry) (head, bool) {
	h, parts := headFor(e, ustarMagic).parted()
	return h, parts && !isLong(h.link)
}

// parted is a head with its name in the two fields, if there is room in them, and whether there is.
func (h head) parted() (head, bool) {
	if !isLong(h.name) {
		return h, true
	}
	from := len(h.name) - textSize - 1
	at := from + strings.IndexByte(h.name[from:], '/')
	if at < from || at > prefixSize || at == len(h.name)-1 {
		return h, false
	}
	h.prefix, h.name = h.name[:at], h.name[at+1:]
	return h, true
}

// isLong tells whether a text has no room in its field.
func isLong(s string) bool {
	return len(s) > textSize
}

// appendGnu puts an entry behind out, its long texts ahead of it.
func appendGnu(out []byte, e api.Entry) []byte {
	h := headFor(e, gnuMagic)
	if isLong(h.name) {
		out = appendMember(out, head{name: gnuName, kind: nameType, magic: gnuMagic}, []byte(h.name+textEnd))
	}
	if isLong(h.link) {
		out = appendMember(out, head{name: gnuName, kind: targetType, magic: gnuMagic}, []byte(h.link+textEnd))
	}
	return appendMember(out, h, e.Data)
}

// appendPax puts an entry behind out, the records of its long texts ahead of it.
func appendPax(out []byte, e api.Entry) []byte {
	h, parts := headFor(e, ustarMagic).parted()
	records := ""
	if !parts {
		records = record(pathKey, h.name)
	}
	if isLong(h.link) {
		records += record(linkKey, h.link)
	}
	if records != "" {
		out = appendMember(out, head{name: paxName, kind: recordsType, magic: ustarMagic}, []byte(records))
	}
	return appendMember(out, h, e.Data)
}

// record is a record of a key and a value.
func record(key, value string) string {
	s := lengthEnd + key + keyEnd + value + recordEnd
	size := len(s)
	// The digits of the length are counted with it, and may make it longer by one.
	for size != len(s)+len(codec.Dec(size)) {
		size = len(s) + len(codec.Dec(size))
	}
	return codec.Dec(size) + s
}

// appendMember puts a head and its bytes behind out, filled up to blocks.
func appendMember(out []byte, h head, body []byte) []byte {
	h.size = len(body)
	out = append(out, h.block()...)
	out = append(out, body...)
	return append(out, make([]byte, filledUp(len(body))-len(body))...)
}
