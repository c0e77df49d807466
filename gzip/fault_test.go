package gzip_test

import (
	"bytes"
	"math"
	"math/rand/v2"
	"slices"
	"strings"
	"testing"

	"drayage/api"
	"drayage/deflate"
	"drayage/inflate"
)

// P6.2: the chapter's examples.
func TestUnpackExamples(t *testing.T) {
	checkFault(t, "nothing", nil, 9, 0, api.ErrShort)
	checkFault(t, "nothing", []byte{}, 0, 0, api.ErrShort)
	b := []byte("\x1f\x8b\x08\x08\x01\x00\x00\x00\x00\x03n\x00\x01\x01\x00\xfe\xffa\x43\xbe\xb7\xe8\x01\x00\x00\x00")
	checkUnpack(t, "the example", b, 1, api.Member{Name: "n", Mtime: 1, Data: []byte("a")})
	checkFault(t, "another method", append(b, 0x1f, 0x8b, 7, 0, 0, 0, 0, 0, 0, 0), 9, 26, api.ErrMethod)
}

// P6.2: no such room; asked ahead of all else.
func TestMostIsNone(t *testing.T) {
	for _, most := range []int{-1, api.MaxOut + 1, math.MinInt, math.MaxInt, 1 << 32, -1 << 32} {
		for _, b := range [][]byte{nil, []byte("x"), {0x1f, 0x8b, 7, 0, 0, 0, 0, 0, 0, 0}, streamOf(made{data: "a"}, made{})} {
			checkFault(t, "most", b, most, 0, api.ErrArg)
		}
	}
}

// wrong is bytes that are at fault, as a member or what should be one.
type wrong struct {
	what string
	b    []byte
	room int
	e    api.Errno
}

// eachWrong checks bytes that are at fault, alone and behind others.
func eachWrong(t *testing.T, all []wrong) {
	t.Helper()
	ahead := []made{{how: deflate.Fixed}, {flags: 31, extra: "x", name: "name", comment: "c", data: "abc"}, {flags: 8, data: string(someBytes(99))}}
	for _, w := range all {
		for n := range len(ahead) + 1 {
			b, room := streamOf(ahead[:n]...), w.room
			for _, m := range ahead[:n] {
				room += len(m.data)
			}
			checkFault(t, w.what, append(b, w.b...), room, len(b), w.e)
		}
	}
}

// changed is bytes, one of them another one.
func changed(b []byte, at int, to byte) []byte {
	b = bytes.Clone(b)
	b[at] = to
	return b
}

// P6.2: what is wrong with the ten bytes.
func TestHeadFaults(t *testing.T) {
	head := made{}.head()
	whole := made{data: "abc"}.bytes()
	var all []wrong
	for n := 1; n < 10; n++ {
		all = append(all,
			wrong{"short", head[:n], 9, api.ErrShort},
			wrong{"short, of noughts", make([]byte, n), 9, api.ErrShort},
			wrong{"short, of others", bytes.Repeat([]byte{0xff}, n), 9, api.ErrShort},
		)
	}
	for v := range 256 {
		if v != 0x1f {
			all = append(all, wrong{"first byte", changed(whole, 0, byte(v)), 9, api.ErrForm})
		}
		if v != 0x8b {
			all = append(all, wrong{"second byte", changed(whole, 1, byte(v)), 9, api.ErrForm})
		}
		if v != 8 {
			all = append(all, wrong{"method", changed(whole, 2, byte(v)), 9, api.ErrMethod})
			all = append(all, wrong{"method ahead of flags", changed(changed(whole, 2, byte(v)), 3, 0xff), 9, api.ErrMethod})
			all = append(all, wrong{"bytes ahead of method", changed(changed(whole, 2, byte(v)), 1, 0), 9, api.ErrForm})
		}
		if v >= 32 {
			all = append(all, wrong{"flags", changed(whole, 3, byte(v)), 9, api.ErrForm})
			all = append(all, wrong{"flags ahead of what they tell", changed(head, 3, byte(v)), 9, api.ErrForm})
		}
	}
	all = append(all,
		wrong{"ten noughts", make([]byte, 10), 9, api.ErrForm},
		wrong{"the other way round", changed(changed(whole, 0, 0x8b), 1, 0x1f), 9, api.ErrForm},
	)
	eachWrong(t, all)
}

// P6.2: parts that lack, or lack their ends.
func TestPartsAreShort(t *testing.T) {
	var all []wrong
	for flags := range 32 {
		m := made{flags: byte(flags), extra: "extra", name: "name", comment: "comment"}
		b := m.head()
		for n := 10; n < len(b); n++ {
			all = append(all, wrong{"parts are cut", b[:n], 9, api.ErrShort})
		}
	}
	flagged := func(flags byte, rest string) []byte {
		return append([]byte{0x1f, 0x8b, 8, flags, 0, 0, 0, 0, 0, 0}, rest...)
	}
	all = append(all,
		wrong{"more is told of the lower byte", flagged(4, "\xff\x00"+strings.Repeat("x", 254)), 9, api.ErrShort},
		wrong{"more is told of the higher byte", flagged(4, "\x00\x01"+strings.Repeat("x", 255)), 9, api.ErrShort},
		wrong{"most is told", flagged(4, "\xff\xff"+strings.Repeat("x", 65534)), 9, api.ErrShort},
		wrong{"a name without end", flagged(8, strings.Repeat("x", 200)), 9, api.ErrShort},
		wrong{"a long name without end", flagged(8, strings.Repeat("x", 201)), 9, api.ErrShort},
		wrong{"a longer name without end", flagged(8|16, strings.Repeat("x", 9999)), 9, api.ErrShort},
		wrong{"a comment without end", flagged(16, strings.Repeat("x", 201)), 9, api.ErrShort},
		wrong{"a comment without end behind a name", flagged(8|16, "name\x00comment"), 9, api.ErrShort},
	)
	eachWrong(t, all)
}

// P6.2: names that are too long, whatever lies behind them.
func TestNamesAreLong(t *testing.T) {
	var all []wrong
	for _, n := range []int{201, 202, 255, 256, 65536} {
		name := strings.Repeat("x", n)
		for _, flags := range []byte{8, 1 | 8, 4 | 8, 8 | 16, 2 | 8, 2 | 4 | 8 | 16} {
			m := made{flags: flags, name: name, extra: "extra", comment: "comment", data: "a"}
			b := m.bytes()
			end := bytes.Index(b, []byte(name+"\x00")) + n + 1
			all = append(all,
				wrong{"name", b, 9, api.ErrName},
				wrong{"name, and no room", b, 0, api.ErrName},
				wrong{"name, and nothing behind", b[:end], 9, api.ErrName},
				wrong{"name, and no end", b[:end-1], 9, api.ErrShort},
				wrong{"name, and others behind", append(bytes.Clone(b[:end]), 0xff, 0xff, 0xff), 9, api.ErrName},
			)
			if flags&2 != 0 {
				all = append(all, wrong{"name ahead of the head's sum", changed(b, 4, 9), 9, api.ErrName})
			}
		}
	}
	eachWrong(t, all)
}

// P6.2: the head's sum is of all bytes ahead of it, and is asked ahead of what is behind.
func TestHeadSums(t *testing.T) {
	var all []wrong
	for flags := range 32 {
		m := made{byte(flags) | 2, 99, "extra", "name", "comment", "abc", deflate.Fixed}
		head, b := m.head(), m.bytes()
		for bit := range 8 {
			for _, at := range []int{4, 5, 6, 7, 8, 9, len(head) - 2, len(head) - 1} {
				all = append(all, wrong{"the head's sum", changed(b, at, b[at]^1<<bit), 9, api.ErrSum})
			}
		}
		// The flag that says nothing is among the bytes, too.
		all = append(all, wrong{"the head's sum", changed(b, 3, b[3]^1), 9, api.ErrSum})
		spoiled := changed(head, len(head)-1, head[len(head)-1]^1)
		all = append(all,
			wrong{"the head's sum, nothing behind", spoiled, 0, api.ErrSum},
			wrong{"the head's sum ahead of packed bytes", append(spoiled, 7), 9, api.ErrSum},
		)
		for at := 10; at < len(head)-2; at++ {
			// These letters tell no length and end no text.
			if c := head[at]; c >= 'a' && c <= 'z' {
				all = append(all, wrong{"the head's sum", changed(b, at, c-'a'+'A'), 9, api.ErrSum})
			}
		}
	}
	eachWrong(t, all)
	// Other members are not among the bytes.
	m := made{flags: 2, mtime: 1}
	checkUnpack(t, "sums of heads", streamOf(m, m, m), 0, m.member(), m.member(), m.member())
}

// P6.2: the errors of Inflate.
func TestPackedFaults(t *testing.T) {
	var all []wrong
	for flags := range 32 {
		head := made{flags: byte(flags), name: "name", extra: "extra", comment: "comment"}.head()
		tail := made{data: "a"}.tail()
		for _, packed := range []string{"", "\x07", "\x06", "\x4b", "\x4b\x04", "\x01", "\x01\x01\x00\xfe", "\x01\x01\x00\xfe\xff", "\x01\x01\x00\x00\x00", "\x00\x00\x00\xff\xff", "\x05", "\x03\x02", "\xfd\xff\xff"} {
			for _, behind := range []string{"", string(tail)} {
				b := packed + behind
				if _, _, e := inflate.Inflate([]byte(b), 9); e != api.OK {
					all = append(all, wrong{"packed bytes", append(bytes.Clone(head), b...), 9, e})
				}
			}
		}
		for _, how := range ways() {
			m := made{flags: byte(flags), data: "drayage", how: how}
			for room := range len(m.data) {
				all = append(all,
					wrong{"no room", m.bytes(), room, api.ErrLarge},
					wrong{"no room ahead of the eight bytes", slices.Concat(m.head(), m.packed()), room, api.ErrLarge},
					wrong{"no room ahead of sums", slices.Concat(m.head(), m.packed(), make([]byte, 8)), room, api.ErrLarge},
				)
			}
		}
	}
	if len(all) < 32*13 {
		t.Fatalf("%d faults", len(all))
	}
	eachWrong(t, all)
}

// P6.2: packed bytes that lack, or are wrong far from where they begin.
func TestLongPackedFaults(t *testing.T) {
	var all []wrong
	for _, n := range []int{4000, 5000, 17000, 66000} {
		for _, how := range []int{deflate.Stored, deflate.Dynamic} {
			random := rand.New(rand.NewPCG(6, uint64(n)))
			data := make([]byte, n)
			for i := range data {
				data[i] = byte(random.UintN(256))
			}
			m := made{data: string(data), how: how}
			head, packed := m.head(), m.packed()
			for _, less := range []int{1, 2, 3, 1000, 3900} {
				all = append(all, wrong{"cut", append(bytes.Clone(head), packed[:len(packed)-less]...), n, api.ErrShort})
			}
			all = append(all, wrong{"no room", m.bytes(), n - 1, api.ErrLarge}, wrong{"no room", m.bytes(), n - 1000, api.ErrLarge})
		}
	}
	// A block that is none, behind a stored one.
	for _, n := range []int{10, 4091, 4092, 4093, 20000} {
		block := append([]byte{0, byte(n), byte(n >> 8), ^byte(n), ^byte(n >> 8)}, make([]byte, n)...)
		all = append(all, wrong{"no kind", slices.Concat(made{}.head(), block, []byte{7}, make([]byte, 20000)), n, api.ErrForm})
		all = append(all, wrong{"no kind, cut", slices.Concat(made{}.head(), block), n, api.ErrShort})
	}
	eachWrong(t, all)
}

// P6.2: the eight bytes behind packed ones.
func TestTailFaults(t *testing.T) {
	var all []wrong
	for i, data := range []string{"", "a", "drayage", string(someBytes(300))} {
		for flags := range 32 {
			m := made{flags: byte(flags), name: "name", data: data, how: i % 3}
			b := m.bytes()
			for n := range 8 {
				all = append(all, wrong{"eight bytes", b[:len(b)-8+n], 300, api.ErrShort})
				spoiled := changed(b, len(b)-1-n, ^b[len(b)-1-n])
				all = append(all, wrong{"eight bytes cut ahead of sums", spoiled[:len(b)-1], 300, api.ErrShort})
			}
			for bit := range 64 {
				at := len(b) - 8 + bit/8
				all = append(all, wrong{"sum or count", changed(b, at, b[at]^1<<(bit%8)), 300, api.ErrSum})
			}
			if m.data != "" {
				all = append(all, wrong{"others' eight bytes", slices.Concat(m.head(), m.packed(), made{}.tail()), 300, api.ErrSum})
			}
		}
	}
	eachWrong(t, all)
}

// P6.2: the fault is that of the first member that has one.
func TestFirstFault(t *testing.T) {
	right := made{flags: 8, name: "n", data: "abc"}.bytes()
	short, unknown := right[:len(right)-1], changed(right, 2, 7)
	spoiled := changed(right, len(right)-1, 1)
	checkFault(t, "method, then sum", slices.Concat(right, unknown, spoiled), 9, len(right), api.ErrMethod)
	checkFault(t, "sum, then method", slices.Concat(right, spoiled, unknown), 9, len(right), api.ErrSum)
	checkFault(t, "sum, then room", slices.Concat(spoiled, right, right), 3, 0, api.ErrSum)
	checkFault(t, "room, then short", slices.Concat(right, right, short), 5, len(right), api.ErrLarge)
	checkFault(t, "method, at last", slices.Concat(right, right, unknown), 9, 2*len(right), api.ErrMethod)
}

// P6.2: what is behind the last member is a fault, whatever it is.
func TestBehindLast(t *testing.T) {
	b := streamOf(made{data: "a"}, made{flags: 8, name: "n"})
	for n := 1; n < 40; n++ {
		e := api.ErrForm
		if n < 10 {
			e = api.ErrShort
		}
		for _, c := range []byte{0, ' ', 0xff, 0x1f} {
			checkFault(t, "behind the last", append(bytes.Clone(b), bytes.Repeat([]byte{c}, n)...), 9, len(b), e)
		}
	}
}

// streams is streams of some members.
func streams() [][]byte {
	return [][]byte{
		streamOf(made{}),
		streamOf(made{flags: 8, name: "n", data: "a"}),
		streamOf(made{flags: 31, mtime: 77, extra: "ext", name: "name", comment: "comm", data: "drayage", how: deflate.Fixed}),
		streamOf(made{flags: 2, data: "abcabcabc", how: deflate.Dynamic}, made{flags: 4, extra: "\x00\x01", data: "x", how: deflate.Fixed}),
		streamOf(made{flags: 16, comment: "c", how: deflate.Fixed}, made{data: "bb"}, made{flags: 10, name: "n"}),
	}
}

// P6.2: streams that are cut, at each place.
func TestCutStreams(t *testing.T) {
	for _, b := range streams() {
		for n := range b {
			checkModel(t, b[:n], 20)
		}
	}
}

// P6.2: streams with bits that are changed, and bytes that are left out or put in.
func TestSpoiledStreams(t *testing.T) {
	for _, b := range streams() {
		for at := range b {
			for bit := range 8 {
				checkModel(t, changed(b, at, b[at]^1<<bit), 20)
			}
			for _, c := range []byte{0, 1, 4, 0x1f, 0x8b, 0xff} {
				checkModel(t, changed(b, at, c), 12)
				checkModel(t, slices.Insert(bytes.Clone(b), at, c), 20)
			}
			checkModel(t, slices.Delete(bytes.Clone(b), at, at+1), 20)
		}
	}
}

// P6.2: bytes of no order behind such as begin a member, and streams with some changes.
func TestAnyStreams(t *testing.T) {
	random := rand.New(rand.NewPCG(6, 2))
	for range 30000 {
		b := []byte{0x1f, 0x8b, 8, byte(random.UintN(40)), 0, 0, 0, 0, 0, 0}
		for range random.IntN(60) {
			b = append(b, byte(random.UintN(256)>>(random.UintN(3)*4)))
		}
		checkModel(t, b[:len(b)-random.IntN(2)], random.IntN(40))
	}
	all := streams()
	for range 30000 {
		b := slices.Concat(all[random.IntN(len(all))], all[random.IntN(len(all))])
		for range random.IntN(4) {
			b[random.IntN(len(b))] ^= 1 << random.IntN(8)
		}
		checkModel(t, b[:len(b)-random.IntN(2)], random.IntN(30))
	}
}
