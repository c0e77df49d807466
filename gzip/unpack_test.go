package gzip_test

import (
	"bytes"
	stdgzip "compress/gzip"
	"strconv"
	"strings"
	"testing"
	"time"

	"drayage/api"
	"drayage/deflate"
	"drayage/gzip"
)

// P6.2: whatever parts the flags tell.
func TestFlags(t *testing.T) {
	texts := []string{"", "n", "\xff\x01", strings.Repeat("x", api.MaxPath-1), strings.Repeat("x", api.MaxPath)}
	for flags := range 32 {
		for i, text := range texts {
			m := made{byte(flags), uint32(i) << 28, text, text, text, "drayage", i % 3}
			checkUnpack(t, "flags "+strconv.Itoa(flags), m.bytes(), 7, m.member())
			n := made{byte(flags), 7, text + "\x00\x1f\x8b", "name", text + text, text, i % 3}
			checkUnpack(t, "flags "+strconv.Itoa(flags), append(m.bytes(), n.bytes()...), 500, m.member(), n.member())
		}
	}
}

// P6.2: parts that are as long as they may be, or longer than a name may be.
func TestLongParts(t *testing.T) {
	for _, n := range []int{201, 255, 256, 257, 4096, 65535} {
		text := strings.Repeat("x", n)
		for _, m := range []made{
			{flags: 4, extra: text, data: "a"},
			{flags: 4, extra: strings.Repeat("\x00", n), data: "a"},
			{flags: 16, comment: text, data: "a"},
			{flags: 2 | 4 | 8 | 16, extra: text, name: "n", comment: text, data: "a"},
		} {
			checkUnpack(t, "parts of "+strconv.Itoa(n), m.bytes(), 1, m.member())
		}
	}
	m := made{flags: 2 | 16, comment: strings.Repeat("x", 1<<20), data: "a"}
	checkUnpack(t, "a long comment", m.bytes(), 1, m.member())
}

// P6.2: the time is told lowest byte first, and never below 0.
func TestTimes(t *testing.T) {
	for _, mtime := range []uint32{0, 1, 0xff, 0x100, 0x01020304, 1<<31 - 1, 1 << 31, 1<<32 - 1} {
		m := made{mtime: mtime}
		checkUnpack(t, "time", m.bytes(), 0, api.Member{Mtime: int(mtime)})
	}
}

// P6.2: what the two bytes behind the time are says nothing.
func TestBytesBehindTime(t *testing.T) {
	b := made{data: "a"}.bytes()
	for v := range 1 << 16 {
		b[8], b[9] = byte(v), byte(v>>8)
		checkUnpack(t, "behind the time "+strconv.Itoa(v), b, 1, api.Member{Data: []byte("a")})
	}
}

// P6.2: what fills up the packed bytes' last one says nothing.
func TestBitsBehindPacked(t *testing.T) {
	m := made{data: "drayage", how: deflate.Fixed}
	head, packed := m.head(), m.packed()
	b := m.bytes()
	for bits := range 64 { // the end of the block takes the two lowest ones
		b[len(head)+len(packed)-1] = packed[len(packed)-1]&3 | byte(bits)<<2
		checkModel(t, b, 7)
	}
}

// P6.2: members one behind the other, of all kinds.
func TestMembers(t *testing.T) {
	var all []made
	var want []api.Member
	total := 0
	for i := range 70 {
		m := made{byte(i % 32), uint32(i), "extra", "name" + strconv.Itoa(i), "comment", string(someBytes(i * 40)), i % 3}
		all, want = append(all, m), append(want, m.member())
		total += len(m.data)
		checkUnpack(t, strconv.Itoa(i)+" members", streamOf(all...), total, want...)
	}
	checkUnpack(t, "more room", streamOf(all...), api.MaxOut, want...)
}

// P6.2: very many members, of no byte and of one.
func TestManyMembers(t *testing.T) {
	const count = 20000
	empty, one := made{how: deflate.Fixed, mtime: 1}.bytes(), made{data: "x", how: deflate.Fixed}.bytes()
	b := bytes.Repeat(append(empty, one...), count)
	all, f := gzip.Unpack(b, count)
	if len(all) != 2*count || f != (api.Fault{}) {
		t.Fatalf("%d members, %v", len(all), f)
	}
	for i, m := range all {
		want := api.Member{Mtime: 1 - i%2, Data: []byte("x")[:i%2]}
		if !same(m, want) {
			t.Fatalf("member %d is %v", i, m)
		}
	}
	checkFault(t, "too many members", b, count-1, len(b)-len(one), api.ErrLarge)
}

// P6.2: each member has the room that those ahead of it leave.
func TestRoom(t *testing.T) {
	sizes := []int{0, 3, 0, 5, 1, 0}
	var all []made
	var want []api.Member
	at := 0
	ends := []int{}
	for i, n := range sizes {
		m := made{data: string(someBytes(n)), how: i % 3}
		all, want = append(all, m), append(want, m.member())
		at += len(m.bytes())
		ends = append(ends, at)
	}
	b := streamOf(all...)
	for most := range 12 {
		switch {
		case most >= 9:
			checkUnpack(t, "room", b, most, want...)
		case most == 8:
			checkFault(t, "room for all but one", b, most, ends[3], api.ErrLarge)
		case most >= 3:
			checkFault(t, "room for the first ones", b, most, ends[2], api.ErrLarge)
		default:
			checkFault(t, "room for none", b, most, ends[0], api.ErrLarge)
		}
	}
}

// P6.2: packed bytes of any count, which end at any place, with others behind them or none.
func TestPackedOfAnyCount(t *testing.T) {
	next := made{flags: 8, name: "next", data: "next"}
	for _, around := range []int{16, 4096, 8192, 16384, 65536} {
		for n := around - 15; n < around+4; n++ {
			m := made{data: string(someBytes(n)), how: deflate.Stored}
			b := m.bytes()
			checkUnpack(t, strconv.Itoa(n)+" bytes", b, n, m.member())
			checkUnpack(t, strconv.Itoa(n)+" bytes, and others", append(b, next.bytes()...), n+4, m.member(), next.member())
			checkFault(t, strconv.Itoa(n)+" bytes, too many", b, n-1, 0, api.ErrLarge)
			checkFault(t, strconv.Itoa(n)+" bytes, and others, too many", append(b, next.bytes()...), n+3, len(b), api.ErrLarge)
			for less := 1; less < 16 && less < len(m.packed()); less++ {
				checkFault(t, strconv.Itoa(n)+" bytes, cut", b[:len(b)-less], n, 0, api.ErrShort)
			}
			b[len(b)-1-n%8] ^= 1
			checkFault(t, strconv.Itoa(n)+" bytes, no such sum", append(b, next.bytes()...), n, 0, api.ErrSum)
		}
	}
}

// P6.2: what the library writes.
func TestLibraryWrites(t *testing.T) {
	var all bytes.Buffer
	var want []api.Member
	for i, n := range []int{0, 1, 100, 5000, 70000, 300000} {
		for level := stdgzip.HuffmanOnly; level <= stdgzip.BestCompression; level++ {
			m := api.Member{Name: strings.Repeat("n", i*40), Mtime: 1 + i, Data: someBytes(n)}
			w, err := stdgzip.NewWriterLevel(&all, level)
			if err != nil {
				t.Fatal(err)
			}
			w.Name, w.ModTime = m.Name, time.Unix(int64(m.Mtime), 0)
			if level%2 == 0 {
				w.Comment, w.Extra = "comment", []byte("extra")
			}
			w.Write(m.Data)
			w.Close()
			want = append(want, m)
		}
	}
	checkUnpack(t, "the library's", all.Bytes(), api.MaxOut, want...)
}
