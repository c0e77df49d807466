package gzip_test

import (
	"bytes"
	stdgzip "compress/gzip"
	"encoding/binary"
	"hash/crc32"
	"io"
	"math"
	"slices"
	"strings"
	"testing"

	"drayage/api"
	"drayage/deflate"
	"drayage/gzip"
)

// ways is all ways of packing.
func ways() []int {
	return []int{deflate.Stored, deflate.Fixed, deflate.Dynamic}
}

// someBytes is n bytes, most of which come again.
func someBytes(n int) []byte {
	b := make([]byte, n)
	for i := range b {
		b[i] = byte(i*i/7 + i%3)
	}
	return b
}

// P6.1: the chapter's example.
func TestPackExample(t *testing.T) {
	b, e := gzip.Pack(api.Member{Name: "n", Mtime: 1, Data: []byte("a")}, deflate.Stored)
	want := "\x1f\x8b\x08\x08\x01\x00\x00\x00\x00\x03n\x00" + "\x01\x01\x00\xfe\xffa" + "\x43\xbe\xb7\xe8\x01\x00\x00\x00"
	if string(b) != want || e != api.OK {
		t.Errorf("%x %d", b, e)
	}
	b, e = gzip.Pack(api.Member{}, deflate.Fixed)
	want = "\x1f\x8b\x08\x00\x00\x00\x00\x00\x00\x03" + "\x03\x00" + "\x00\x00\x00\x00\x00\x00\x00\x00"
	if string(b) != want || e != api.OK {
		t.Errorf("%x %d", b, e)
	}
}

// packable is members that are right.
func packable() []api.Member {
	all := []api.Member{
		{},
		{Name: "n"},
		{Name: "data.tar", Mtime: 1700000000, Data: []byte("drayage")},
		{Name: strings.Repeat("x", api.MaxPath), Data: []byte{0}},
		{Name: strings.Repeat("x", api.MaxPath-1), Data: []byte{0}},
		{Name: "\x01\xff\x80 ü/..\n"},
	}
	for _, mtime := range []int{0, 1, 255, 256, 0x01020304, 1<<31 - 1, 1 << 31, 1<<32 - 1} {
		all = append(all, api.Member{Mtime: mtime, Data: []byte("abc")})
	}
	for _, n := range []int{1, 2, 3, 255, 256, 257, 5000, 65534, 65535, 65536, 65537, 70000, 1 << 17} {
		all = append(all, api.Member{Name: "n", Mtime: n, Data: someBytes(n)})
	}
	return all
}

// P6.1: how a member stands in bytes, part by part.
func TestPack(t *testing.T) {
	for _, m := range packable() {
		for _, how := range ways() {
			want := []byte{0x1f, 0x8b, 8, 0}
			want = binary.LittleEndian.AppendUint32(want, uint32(m.Mtime))
			want = append(want, 0, 3)
			if m.Name != "" {
				want[3] = 8
				want = append(want, m.Name+"\x00"...)
			}
			packed, _ := deflate.Deflate(m.Data, how)
			want = append(want, packed...)
			want = binary.LittleEndian.AppendUint32(want, crc32.ChecksumIEEE(m.Data))
			want = binary.LittleEndian.AppendUint32(want, uint32(len(m.Data)))
			if b, e := gzip.Pack(m, how); !bytes.Equal(b, want) || e != api.OK {
				t.Errorf("%q %d %s by %d: %s %d, not %s", m.Name, m.Mtime, brief(m.Data), how, brief(b), e, brief(want))
			}
		}
	}
}

// P6.1, P6.2: what is packed is unpacked to the same member.
func TestPackedIsUnpacked(t *testing.T) {
	for _, m := range packable() {
		for _, how := range ways() {
			b, _ := gzip.Pack(m, how)
			checkUnpack(t, "packed", b, len(m.Data), m)
			checkUnpack(t, "packed", b, api.MaxOut, m)
		}
	}
}

// P6.1: the library reads what is packed.
func TestLibraryReadsPacked(t *testing.T) {
	for _, m := range packable() {
		if strings.ContainsFunc(m.Name, func(r rune) bool { return r > 127 }) {
			continue // the library takes such names for letters of another kind
		}
		for _, how := range ways() {
			b, _ := gzip.Pack(m, how)
			r, err := stdgzip.NewReader(bytes.NewReader(b))
			if err != nil {
				t.Fatalf("%s: %v", brief(b), err)
			}
			out, err := io.ReadAll(r)
			if !bytes.Equal(out, m.Data) || r.Name != m.Name || r.OS != 3 || err != nil {
				t.Errorf("%s: %q %s %v", brief(b), r.Name, brief(out), err)
			}
			if m.Mtime > 0 && r.ModTime.Unix() != int64(m.Mtime) {
				t.Errorf("%s: %v", brief(b), r.ModTime)
			}
		}
	}
}

// P6.1: what is refused, and in which order.
func TestPackRefused(t *testing.T) {
	large := make([]byte, api.MaxOut+1)
	for _, c := range []struct {
		what string
		m    api.Member
		how  int
		e    api.Errno
	}{
		{"time below 0", api.Member{Mtime: -1}, deflate.Stored, api.ErrArg},
		{"least time", api.Member{Mtime: math.MinInt}, deflate.Fixed, api.ErrArg},
		{"time of five bytes", api.Member{Mtime: 1 << 32}, deflate.Dynamic, api.ErrArg},
		{"time of five bytes, the lowest 1", api.Member{Mtime: 1<<32 + 1}, deflate.Stored, api.ErrArg},
		{"greatest time", api.Member{Mtime: math.MaxInt}, deflate.Stored, api.ErrArg},
		{"time of archives", api.Member{Mtime: api.MaxTime}, deflate.Stored, api.ErrArg},
		{"time ahead of name, way, and data", api.Member{Name: "\x00", Mtime: -1, Data: large}, 7, api.ErrArg},
		{"time ahead of name", api.Member{Name: strings.Repeat("x", 201), Mtime: 1 << 32}, deflate.Stored, api.ErrArg},
		{"name 00", api.Member{Name: "\x00"}, deflate.Stored, api.ErrName},
		{"name with 00 first", api.Member{Name: "\x00abc"}, deflate.Stored, api.ErrName},
		{"name with 00 last", api.Member{Name: "abc\x00"}, deflate.Fixed, api.ErrName},
		{"name with 00 between", api.Member{Name: "ab\x00c"}, deflate.Dynamic, api.ErrName},
		{"name with 00, the last one that fits", api.Member{Name: strings.Repeat("x", 199) + "\x00"}, deflate.Stored, api.ErrName},
		{"long name", api.Member{Name: strings.Repeat("x", 201)}, deflate.Stored, api.ErrName},
		{"longer name", api.Member{Name: strings.Repeat("x", 70000)}, deflate.Stored, api.ErrName},
		{"long name of few letters", api.Member{Name: strings.Repeat("ü", 101)}, deflate.Stored, api.ErrName},
		{"name ahead of way", api.Member{Name: "\x00"}, -1, api.ErrName},
		{"name ahead of data", api.Member{Name: strings.Repeat("x", 201), Data: large}, deflate.Stored, api.ErrName},
		{"no way", api.Member{Name: "n", Data: []byte("a")}, 3, api.ErrArg},
		{"way below 0", api.Member{}, -1, api.ErrArg},
		{"least way", api.Member{}, math.MinInt, api.ErrArg},
		{"way ahead of data", api.Member{Data: large}, 3, api.ErrArg},
		{"data, stored", api.Member{Data: large}, deflate.Stored, api.ErrLarge},
		{"data, fixed", api.Member{Data: large}, deflate.Fixed, api.ErrLarge},
		{"data, dynamic", api.Member{Name: "n", Data: large}, deflate.Dynamic, api.ErrLarge},
	} {
		if b, e := gzip.Pack(c.m, c.how); len(b) != 0 || e != c.e {
			t.Errorf("%s: %d bytes, %d, not %d", c.what, len(b), e, c.e)
		}
	}
}

// P6.1, P6.2: as many bytes as there may be.
func TestMost(t *testing.T) {
	m := api.Member{Name: "n", Data: slices.Repeat([]byte("0123456789abcdef"), api.MaxOut/16)}
	b, e := gzip.Pack(m, deflate.Stored)
	if e != api.OK {
		t.Fatalf("%d", e)
	}
	checkUnpack(t, "most", b, api.MaxOut, m)
	checkFault(t, "most, less one", b, api.MaxOut-1, 0, api.ErrLarge)
	empty := made{how: deflate.Fixed}
	checkUnpack(t, "most, and nothing", append(b, empty.bytes()...), api.MaxOut, m, empty.member())
	one := made{data: "x"}
	checkFault(t, "most, and one", append(b, one.bytes()...), api.MaxOut, len(b), api.ErrLarge)
}
