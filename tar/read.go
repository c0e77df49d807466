package tar

import (
	"strings"

	"drayage/api"
	"drayage/codec"
	"drayage/entry"
)

// Read is the entries of an archive.
func Read(b []byte) ([]api.Entry, api.Fault) {
	r := &reader{b: b, told: map[string]value{}}
	behind := r.readHeads()
	// The entries stand ahead of the head that is at fault. They are checked all at once, as CheckAll of each would go through all ahead of it again.
	if i, code := entry.CheckAll(r.entries); code != api.OK {
		return nil, api.Fault{At: r.places[i], Code: code}
	}
	if behind.Code != api.OK {
		return nil, behind
	}
	return entry.Copy(r.entries), api.Fault{}
}

// reader goes through an archive, head by head.
type reader struct {
	b       []byte
	entries []api.Entry // whose data are pieces of b
	places  []int       // where the entries' heads stand
	// What heads ahead of the next entry tell of it: by the types of those that came, and by the keys of records.
	told  map[string]value
	first int // where the first of these heads stands
}

// value is what a head, or a record, tells.
type value struct {
	text   string
	number int
}

// readHeads reads up to the two blocks, and tells which head is at fault.
func (r *reader) readHeads() api.Fault {
	for at := 0; ; {
		if len(r.b)-at < blockSize {
			return api.Fault{At: at, Code: api.ErrShort}
		}
		if isEmpty(r.b[at : at+blockSize]) {
			return r.readEnd(at)
		}
		next, code := r.readHead(at)
		if code != api.OK {
			return api.Fault{At: at, Code: code}
		}
		at = next
	}
}

// isEmpty tells whether a block is bytes 00 alone.
func isEmpty(block []byte) bool {
	for _, c := range block {
		if c != 0 {
			return false
		}
	}
	return true
}

// readEnd tells what is wrong with the end of an archive, which begins at a block of bytes 00.
func (r *reader) readEnd(at int) api.Fault {
	switch {
	case len(r.b)-at < 2*blockSize:
		return api.Fault{At: at, Code: api.ErrShort}
	case !isEmpty(r.b[at+blockSize : at+2*blockSize]):
		return api.Fault{At: at, Code: api.ErrForm}
	case len(r.told) > 0:
		return api.Fault{At: r.first, Code: api.ErrOrder}
	}
	return api.Fault{}
}

// readHead reads the head at a place, and its bytes, and answers where the next one stands.
func (r *reader) readHead(at int) (next int, code api.Errno) {
	from := at + blockSize
	h, code := headOf(r.b[at:from])
	if code != api.OK {
		return 0, code
	}
	size := r.sizeOf(h)
	_, came := r.told[h.kind]
	if came || size > 0 && isWithoutBytes(h.kind) {
		return 0, api.ErrForm
	}
	used := filledUp(size)
	if len(r.b)-from < used {
		return 0, api.ErrShort
	}
	return from + used, r.take(h, at, r.b[from:from+size])
}

// sizeOf is how many bytes stand behind a head. A record of the size says nothing of a head that stands ahead of the entry's.
func (r *reader) sizeOf(h head) int {
	switch h.kind {
	case nameType, targetType, recordsType:
		return h.size
	}
	return r.number(h.size, sizeKey)
}

func isWithoutBytes(kind string) bool {
	return kind == hardType || kind == linkType || kind == dirType
}

// take takes what the head at a place tells, and its bytes.
func (r *reader) take(h head, at int, body []byte) api.Errno {
	if len(r.told) == 0 {
		r.first = at
	}
	switch h.kind {
	case nameType, targetType:
		return r.takeText(h.kind, string(body))
	case recordsType:
		return r.takeRecords(string(body))
	}
	return r.takeEntry(h, at, body)
}

// takeText takes the next entry's name, or its link.
func (r *reader) takeText(kind, body string) api.Errno {
	text, _, ends := strings.Cut(body, textEnd)
	if !ends {
		return api.ErrForm
	}
	r.told[kind] = value{text: text}
	return api.OK
}

// takeRecords takes the next entry's records.
func (r *reader) takeRecords(body string) api.Errno {
	r.told[recordsType] = value{}
	for body != "" {
		key, text, rest, is := cutRecord(body)
		if !is {
			return api.ErrForm
		}
		if code := r.takeRecord(key, text); code != api.OK {
			return code
		}
		body = rest
	}
	return api.OK
}

// cutRecord is the record at the beginning of s, and what is behind it, if a record stands there.
func cutRecord(s string) (key, text, rest string, is bool) {
	digits, _, _ := strings.Cut(s, lengthEnd)
	size, code := codec.Undec(digits)
	if code != api.OK || size > len(s) {
		return "", "", "", false
	}
	// The length may end the record within its own digits, or behind the blank.
	record, begins := strings.CutPrefix(s[:size], digits+lengthEnd)
	record, ends := strings.CutSuffix(record, recordEnd)
	key, text, is = strings.Cut(record, keyEnd)
	return key, text, s[size:], begins && ends && is
}

// takeRecord takes a record.
func (r *reader) takeRecord(key, text string) api.Errno {
	v, code := value{text: text}, api.OK
	switch key {
	case pathKey, linkKey, ownerKey, groupKey, commentKey:
	case sizeKey, uidKey, gidKey, mtimeKey:
		v.number, code = codec.Undec(text)
	default:
		return api.ErrKind
	}
	r.told[key] = v
	return code
}

// takeEntry puts an entry behind those that were read.
func (r *reader) takeEntry(h head, at int, body []byte) api.Errno {
	if len(r.entries) == api.MaxEntries {
		return api.ErrLarge
	}
	e := api.Entry{
		Path:  r.text(h.fullName(), pathKey, nameType),
		Kind:  kindOf(h.kind),
		Mode:  h.mode,
		Uid:   r.number(h.uid, uidKey),
		Gid:   r.number(h.gid, gidKey),
		Owner: r.text(h.owner, ownerKey),
		Group: r.text(h.group, groupKey),
		Mtime: r.number(h.mtime, mtimeKey),
		Data:  body,
	}
	switch e.Kind {
	case api.Dir:
		e.Path = strings.TrimSuffix(e.Path, dirEnd)
	case api.Link, api.Hard:
		e.Link = r.text(h.link, linkKey, targetType)
	}
	r.entries = append(r.entries, e)
	r.places = append(r.places, at)
	clear(r.told)
	return api.OK
}

// text is the first of some texts that is told ahead of an entry's head, or the head's own.
func (r *reader) text(own string, by ...string) string {
	for _, key := range by {
		if v, is := r.told[key]; is {
			return v.text
		}
	}
	return own
}

// number is a number that is told ahead of an entry's head, or the head's own.
func (r *reader) number(own int, key string) int {
	if v, is := r.told[key]; is {
		return v.number
	}
	return own
}
