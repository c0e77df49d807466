package ar

import (
	"bytes"
	"strings"

	"drayage/api"
	"drayage/codec"
)

// Read is the items of an archive.
func Read(b []byte) ([]api.Item, api.Fault) {
	if !bytes.HasPrefix(b, []byte(magic)) {
		return nil, api.Fault{Code: api.ErrForm}
	}
	r := &reader{}
	for at := len(magic); at < len(b); {
		used, code := r.member(b[at:], at == len(magic))
		if code != api.OK {
			return nil, api.Fault{At: at, Code: code}
		}
		at += used
	}
	return r.items, api.Fault{}
}

// reader goes through an archive, member by member.
type reader struct {
	items    []api.Item
	table    []byte
	hasTable bool // which may have no bytes
}

// member reads the member at the beginning of b, and answers how many bytes that are.
func (r *reader) member(b []byte, first bool) (used int, code api.Errno) {
	if len(r.items) == api.MaxEntries {
		return 0, api.ErrLarge
	}
	h, body, used, code := cut(b)
	if code != api.OK {
		return 0, code
	}
	if h.name == tableName {
		return used, r.readTable(h, body, first)
	}
	return used, r.readItem(h, body)
}

// cut is the head at the beginning of b, the bytes behind it, and how many bytes the whole member has.
func cut(b []byte) (h head, body []byte, used int, code api.Errno) {
	if len(b) < headSize {
		return head{}, nil, 0, api.ErrShort
	}
	text := string(b[:headSize])
	h = headOf(text)
	size, code := codec.Undec(h.size)
	if code != api.OK || !strings.HasSuffix(text, headEnd) {
		return head{}, nil, 0, api.ErrForm
	}
	end := headSize + size
	used = end + size%2
	if len(b) < used {
		return head{}, nil, 0, api.ErrShort
	}
	if used > end && b[end] != filler {
		return head{}, nil, 0, api.ErrForm
	}
	return h, b[headSize:end], used, api.OK
}

// readTable takes the table that items behind it have their names in.
func (r *reader) readTable(h head, body []byte, first bool) api.Errno {
	if !first {
		return api.ErrOrder
	}
	if (h != head{name: tableName, size: h.size}) {
		return api.ErrForm
	}
	r.table, r.hasTable = body, true
	return api.OK
}

// readItem puts an item behind those that were read.
func (r *reader) readItem(h head, body []byte) api.Errno {
	x, code := h.item()
	if code != api.OK {
		return code
	}
	x.Name, x.Data, code = r.named(h.name, body)
	if code != api.OK {
		return code
	}
	if code := Check(x); code != api.OK {
		return code
	}
	x.Data = bytes.Clone(x.Data)
	r.items = append(r.items, x)
	return api.OK
}

// named is the name of an item whose head tells it so, and the item's bytes without it.
func (r *reader) named(told string, body []byte) (name string, data []byte, code api.Errno) {
	if digits, is := strings.CutPrefix(told, aheadMark); is {
		return nameAhead(digits, body)
	}
	if digits, is := strings.CutPrefix(told, tableMark); is {
		name, code = r.nameInTable(digits)
		return name, body, code
	}
	return strings.TrimSuffix(told, gnuEnd), body, api.OK
}

// nameAhead is the name of so many bytes that stands ahead of others, and these.
func nameAhead(digits string, body []byte) (name string, data []byte, code api.Errno) {
	n, code := codec.Undec(digits)
	if code != api.OK {
		return "", nil, api.ErrForm
	}
	if n > len(body) {
		return "", nil, api.ErrShort
	}
	return string(body[:n]), body[n:], api.OK
}

// nameInTable is the name at a place in the table.
func (r *reader) nameInTable(digits string) (string, api.Errno) {
	place, code := codec.Undec(digits)
	if code != api.OK {
		return "", api.ErrKind
	}
	if !r.hasTable {
		return "", api.ErrOrder
	}
	if place >= len(r.table) {
		return "", api.ErrForm
	}
	name, _, ends := bytes.Cut(r.table[place:], []byte(tabledEnd))
	if !ends {
		return "", api.ErrForm
	}
	return string(name), api.OK
}
