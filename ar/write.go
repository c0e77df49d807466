package ar

import (
	"strings"

	"drayage/api"
	"drayage/codec"
)

// Write is an archive.
func Write(l []api.Item, style int) ([]byte, api.Errno) {
	if code := checkAll(l, style); code != api.OK {
		return nil, code
	}
	out := []byte(magic)
	if table := tableOf(l, style); len(table) > 0 {
		h := head{name: tableName, size: codec.Dec(len(table))}
		out = appendMember(out, h, "", table)
	}
	place := 0
	for _, x := range l {
		name, ahead := x.Name, ""
		switch room := hasRoom(x.Name, style); {
		case style == Gnu && room:
			name += gnuEnd
		case style == Gnu:
			name = tableMark + codec.Dec(place)
			place += len(x.Name) + len(tabledEnd)
		case style == Bsd && !room:
			name, ahead = aheadMark+codec.Dec(len(x.Name)), x.Name
		}
		out = appendMember(out, headFor(x, name, len(ahead)+len(x.Data)), ahead, x.Data)
	}
	return out, api.OK
}

// checkAll tells why a list has no archive in a style.
func checkAll(l []api.Item, style int) api.Errno {
	if style < Common || style > Bsd {
		return api.ErrArg
	}
	if len(l) > api.MaxEntries {
		return api.ErrLarge
	}
	for _, x := range l {
		if code := Check(x); code != api.OK {
			return code
		}
	}
	for _, x := range l {
		// The other styles have other places for such a name.
		if style == Common && !hasRoom(x.Name, style) {
			return api.ErrName
		}
	}
	return api.OK
}

// hasRoom tells whether a name stands in the head itself.
func hasRoom(name string, style int) bool {
	switch style {
	case Gnu:
		return len(name+gnuEnd) <= mostInHead && name+gnuEnd != aheadMark
	case Bsd:
		return len(name) <= mostInHead && !strings.Contains(name, blank)
	}
	return len(name) <= mostInHead
}

// tableOf is the names that have no room in their heads; other styles than Gnu have no table.
func tableOf(l []api.Item, style int) []byte {
	var table []byte
	for _, x := range l {
		if style == Gnu && !hasRoom(x.Name, style) {
			table = append(table, x.Name+tabledEnd...)
		}
	}
	return table
}

// appendMember puts a member behind out: its head, and its bytes, the name among them, if it stands ahead of them.
func appendMember(out []byte, h head, ahead string, data []byte) []byte {
	out = append(out, h.text()...)
	out = append(out, ahead...)
	out = append(out, data...)
	if (len(ahead)+len(data))%2 == 1 {
		out = append(out, filler)
	}
	return out
}
