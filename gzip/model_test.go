package gzip_test

import (
	"bytes"
	"encoding/binary"
	"hash/crc32"
	"slices"
	"strconv"
	"testing"

	"drayage/api"
	"drayage/deflate"
	"drayage/gzip"
	"drayage/inflate"
)

// made is a member as its flags may tell it.
type made struct {
	flags                byte
	mtime                uint32
	extra, name, comment string
	data                 string
	how                  int
}

// head is what stands ahead of the packed bytes.
func (m made) head() []byte {
	b := []byte{0x1f, 0x8b, 8, m.flags}
	b = binary.LittleEndian.AppendUint32(b, m.mtime)
	b = append(b, 0xaa, 0xbb)
	if m.flags&4 != 0 {
		b = binary.LittleEndian.AppendUint16(b, uint16(len(m.extra)))
		b = append(b, m.extra...)
	}
	if m.flags&8 != 0 {
		b = append(b, m.name+"\x00"...)
	}
	if m.flags&16 != 0 {
		b = append(b, m.comment+"\x00"...)
	}
	if m.flags&2 != 0 {
		b = binary.LittleEndian.AppendUint16(b, uint16(crc32.ChecksumIEEE(b)))
	}
	return b
}

func (m made) packed() []byte {
	b, e := deflate.Deflate([]byte(m.data), m.how)
	if e != api.OK {
		panic(e)
	}
	return b
}

func (m made) tail() []byte {
	b := binary.LittleEndian.AppendUint32(nil, crc32.ChecksumIEEE([]byte(m.data)))
	return binary.LittleEndian.AppendUint32(b, uint32(len(m.data)))
}

func (m made) bytes() []byte {
	return slices.Concat(m.head(), m.packed(), m.tail())
}

// member is what Unpack should answer of it.
func (m made) member() api.Member {
	is := api.Member{Mtime: int(m.mtime), Data: []byte(m.data)}
	if m.flags&8 != 0 {
		is.Name = m.name
	}
	return is
}

// streamOf is members, one behind the other.
func streamOf(all ...made) []byte {
	var b []byte
	for _, m := range all {
		b = append(b, m.bytes()...)
	}
	return b
}

// modelOf is what Unpack should answer, as the chapter tells it: it leans on Inflate, and on the library.
func modelOf(b []byte, most int) ([]api.Member, api.Fault) {
	if most < 0 || most > 1<<24 {
		return nil, api.Fault{Code: api.ErrArg}
	}
	var all []api.Member
	for at := 0; ; {
		m, size, e := modelMember(b[at:], most)
		if e != api.OK {
			return nil, api.Fault{At: at, Code: e}
		}
		all = append(all, m)
		most -= len(m.Data)
		at += size
		if at == len(b) {
			return all, api.Fault{}
		}
	}
}

func modelMember(b []byte, room int) (m api.Member, size int, e api.Errno) {
	if len(b) < 10 {
		return m, 0, api.ErrShort
	}
	if string(b[:2]) != "\x1f\x8b" {
		return m, 0, api.ErrForm
	}
	if b[2] != 8 {
		return m, 0, api.ErrMethod
	}
	if b[3] >= 32 {
		return m, 0, api.ErrForm
	}
	m.Mtime = int(binary.LittleEndian.Uint32(b[4:]))
	at, e := modelParts(b, &m)
	if e != api.OK {
		return m, 0, e
	}
	out, used, e := inflate.Inflate(b[at:], room)
	if e != api.OK {
		return m, 0, e
	}
	m.Data = out
	at += used
	if len(b) < at+8 {
		return m, 0, api.ErrShort
	}
	if binary.LittleEndian.Uint32(b[at:]) != crc32.ChecksumIEEE(out) || binary.LittleEndian.Uint32(b[at+4:]) != uint32(len(out)) {
		return m, 0, api.ErrSum
	}
	return m, at + 8, api.OK
}

// modelParts goes through the parts that the flags tell, and answers where they end.
func modelParts(b []byte, m *api.Member) (at int, e api.Errno) {
	at = 10
	if b[3]&4 != 0 {
		if len(b) < at+2 {
			return 0, api.ErrShort
		}
		at += 2 + int(b[at]) + 256*int(b[at+1])
		if len(b) < at {
			return 0, api.ErrShort
		}
	}
	for _, flag := range []byte{8, 16} {
		if b[3]&flag == 0 {
			continue
		}
		text, _, found := bytes.Cut(b[at:], []byte{0})
		if !found {
			return 0, api.ErrShort
		}
		at += len(text) + 1
		if flag == 8 {
			m.Name = string(text)
		}
		if flag == 8 && len(text) > 200 {
			return 0, api.ErrName
		}
	}
	if b[3]&2 != 0 {
		if len(b) < at+2 {
			return 0, api.ErrShort
		}
		if binary.LittleEndian.Uint16(b[at:]) != uint16(crc32.ChecksumIEEE(b[:at])) {
			return 0, api.ErrSum
		}
		at += 2
	}
	return at, api.OK
}

func same(a, b api.Member) bool {
	return a.Name == b.Name && a.Mtime == b.Mtime && bytes.Equal(a.Data, b.Data)
}

// brief is bytes, or the beginning of very many.
func brief(b []byte) string {
	if len(b) > 60 {
		return strconv.Quote(string(b[:60])) + ".. (" + strconv.Itoa(len(b)) + ")"
	}
	return strconv.Quote(string(b))
}

// checkMembers holds members against those that should be there.
func checkMembers(t *testing.T, what string, is, want []api.Member) {
	t.Helper()
	if len(is) != len(want) {
		t.Errorf("%s: %d members, not %d", what, len(is), len(want))
		return
	}
	for i, m := range is {
		if !same(m, want[i]) {
			t.Errorf("%s: member %d is %q %d %s, not %q %d %s", what, i, m.Name, m.Mtime, brief(m.Data), want[i].Name, want[i].Mtime, brief(want[i].Data))
		}
	}
}

// checkUnpack unpacks what is right.
func checkUnpack(t *testing.T, what string, b []byte, most int, want ...api.Member) {
	t.Helper()
	all, f := gzip.Unpack(b, most)
	if f != (api.Fault{}) {
		t.Errorf("%s: %v", what, f)
	}
	checkMembers(t, what, all, want)
}

// checkFault unpacks what isn't right: nothing stands beside the fault.
func checkFault(t *testing.T, what string, b []byte, most, at int, code api.Errno) {
	t.Helper()
	all, f := gzip.Unpack(b, most)
	if want := (api.Fault{At: at, Code: code}); len(all) != 0 || f != want {
		t.Errorf("%s: %d members, %v, not %v", what, len(all), f, want)
	}
}

// checkModel holds Unpack against the model.
func checkModel(t *testing.T, b []byte, most int) {
	t.Helper()
	want, wantFault := modelOf(b, most)
	all, f := gzip.Unpack(b, most)
	if f != wantFault {
		t.Errorf("%s, most %d: %v, not %v", brief(b), most, f, wantFault)
	}
	checkMembers(t, brief(b), all, want)
}
