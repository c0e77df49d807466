package inflate_test

import (
	"bytes"
	"compress/flate"
	"math"
	"slices"
	"strings"
	"testing"

	"drayage/api"
	"drayage/huff"
	"drayage/inflate"
)

// checkBits holds what Inflate answers of bits, which end with a last block, against what they should unpack to: as they are, with more behind them, and with a most that just does.
func checkBits(t *testing.T, what, bits, want string) {
	t.Helper()
	b := bytesOf(bits)
	for _, most := range []int{len(want), len(want) + 1, api.MaxOut} {
		for _, more := range []string{"", "\x00", "\xff\xff\xff", "\x4b\x04\x00"} {
			out, used, e := inflate.Inflate(append(bytes.Clone(b), more...), most)
			if string(out) != want || used != len(b) || e != api.OK {
				t.Errorf("%s, with %x behind, most %d: %s, %d used, %d, not %s, %d used", what, more, most, brief(out), used, e, brief([]byte(want)), len(b))
			}
		}
	}
	if len(want) > 0 {
		checkFault(t, what+", one byte less", b, len(want)-1, api.ErrLarge)
	}
}

// checkFault holds an error, and that nothing stands beside it.
func checkFault(t *testing.T, what string, b []byte, most int, want api.Errno) {
	t.Helper()
	if out, used, e := inflate.Inflate(b, most); len(out) != 0 || used != 0 || e != want {
		t.Errorf("%s: %s, %d used, %d, not %d", what, brief(out), used, e, want)
	}
}

// brief is bytes to be told of, not too many of them.
func brief(b []byte) string {
	const most = 40
	s := []byte{}
	for _, c := range b[:min(len(b), most)] {
		s = append(s, "0123456789abcdef"[c>>4], "0123456789abcdef"[c&15])
	}
	if len(b) > most {
		s = append(s, ".."...)
	}
	return string(s)
}

// P4.1, P4.2: the chapter's examples.
func TestExamples(t *testing.T) {
	for _, c := range []struct {
		b    string
		most int
		want string
		used int
		e    api.Errno
	}{
		{"\x01\x01\x00\xfe\xffa", 1, "a", 6, api.OK},
		{"\x4b\x04\x00", 1, "a", 3, api.OK},
		{"\x07", 1, "", 0, api.ErrForm},
		{"\x4b", 1, "", 0, api.ErrShort},
		{"\x01\x01\x00\x00\x00", 1, "", 0, api.ErrForm},
		{"\x01\x01\x00\xfe\xffa", 0, "", 0, api.ErrLarge},
		{"\x03\x00", 0, "", 2, api.OK},
	} {
		out, used, e := inflate.Inflate([]byte(c.b), c.most)
		if string(out) != c.want || used != c.used || e != c.e {
			t.Errorf("%x: %q %d %d", c.b, out, used, e)
		}
	}
}

// P4.1: most is asked ahead of all bytes.
func TestMost(t *testing.T) {
	for _, most := range []int{-1, -2, math.MinInt, api.MaxOut + 1, 1 << 32, math.MaxInt} {
		for _, b := range []string{"", "\x03\x00", "\x07", "\x4b", "\x4b\x04\x00"} {
			checkFault(t, "most", []byte(b), most, api.ErrArg)
		}
	}
	for _, most := range []int{0, 1, api.MaxOut - 1, api.MaxOut} {
		if out, used, e := inflate.Inflate([]byte{3, 0}, most); len(out) != 0 || used != 2 || e != api.OK {
			t.Errorf("most %d: %x %d %d", most, out, used, e)
		}
		checkFault(t, "nothing", nil, most, api.ErrShort)
	}
}

// P4.1, P4.2: as much as there may be, and one byte more.
func TestMostOut(t *testing.T) {
	zeros := "0"
	runs := (api.MaxOut - 1) / 258
	rest := (api.MaxOut - 1) % 258
	bits := fixedHead + literalsOf(fixedLiterals, zeros) + strings.Repeat(fixedRun(258, 1), runs) + fixedRun(rest, 1)
	out, used, e := inflate.Inflate(bytesOf(last(bits+fixedLiterals[256])), api.MaxOut)
	if len(out) != api.MaxOut || used != (len(bits)+7+7)/8 || e != api.OK || strings.Trim(string(out), "0") != "" {
		t.Errorf("%d bytes, %d used, %d", len(out), used, e)
	}
	checkFault(t, "a byte more", bytesOf(last(bits+fixedLiterals['0'])), api.MaxOut, api.ErrLarge)
}

// P4.1: blocks of kind 0, of all sizes that matter, behind all numbers of bits.
func TestStored(t *testing.T) {
	for _, n := range []int{0, 1, 2, 7, 255, 256, 257, 4096, 65534, 65535} {
		data := someBytes(n)
		checkBits(t, "stored", last(storedAt(0, data)), data)
	}
	for ahead := range 9 {
		bits := strings.Repeat(fixedOf(""), ahead)
		checkBits(t, "stored behind others", bits+last(storedAt(len(bits), "abc")), "abc")
		bits += storedAt(len(bits), "")
		bits += storedAt(len(bits), "de")
		checkBits(t, "three of them", bits+last(storedAt(len(bits), "\xff")), "de\xff")
	}
}

// P4.1: the bits between a stored block's head and the next byte say nothing.
func TestStoredSkips(t *testing.T) {
	for skipped := range 32 {
		b := []byte{byte(1 | skipped<<3), 2, 0, 0xfd, 0xff, 'x', 'y'}
		checkBits(t, "stored", bitsOf(b), "xy")
	}
}

// P4.1: each byte, and all of them, by blocks of kind 1.
func TestFixedLiterals(t *testing.T) {
	all := make([]byte, 256)
	for i := range all {
		all[i] = byte(i)
		checkBits(t, "a byte", last(fixedOf(string(all[i:i+1]))), string(all[i:i+1]))
	}
	checkBits(t, "all bytes", last(fixedOf(string(all))), string(all))
}

// P4.1: where the last block ends, at each bit of a byte.
func TestUsed(t *testing.T) {
	for literals := range 17 {
		data := strings.Repeat("\x90", literals) // of 9 bits
		bits := last(fixedOf(data))
		checkBits(t, "one block", bits, data)
		// What is left of the last byte's bits says nothing.
		ones := bytesOf(bits + strings.Repeat("1", (8-len(bits)%8)%8))
		if out, used, e := inflate.Inflate(ones, literals); string(out) != data || used != len(ones) || e != api.OK {
			t.Errorf("with bits 1 behind: %x %d %d", out, used, e)
		}
		checkBits(t, "two blocks", fixedOf(data)+last(fixedOf("z")), data+"z")
		// A last block is the last one.
		checkBits(t, "a last block, and another one", bits+strings.Repeat("0", (8-len(bits)%8)%8), data)
	}
}

// P4.1: copies of each length, from each place that they may begin at.
func TestRuns(t *testing.T) {
	for length := 3; length <= 258; length++ {
		for _, back := range []int{1, 2, 3, 4, 5, 6, 7, 9, 257, 258, 259} {
			data := someBytes(back)
			want := data + strings.Repeat(data, 258)[:length]
			bits := fixedHead + literalsOf(fixedLiterals, data) + fixedRun(length, back) + fixedLiterals[256]
			out, used, e := inflate.Inflate(bytesOf(last(bits)), len(want))
			if string(out) != want || used != (len(bits)+7)/8 || e != api.OK {
				t.Errorf("%d bytes from %d back: %d bytes, %d used, %d", length, back, len(out), used, e)
			}
			checkFault(t, "one byte too many", bytesOf(last(bits)), len(want)-1, api.ErrLarge)
		}
	}
}

// P4.1: copies from all distances, over blocks that are behind others.
func TestDistances(t *testing.T) {
	data := someBytes(32768)
	want := []byte(data)
	var s strings.Builder
	s.WriteString(storedAt(0, data) + fixedHead)
	for back := 1; back <= 32768; back++ {
		s.WriteString(fixedRun(3, back))
		for range 3 {
			want = append(want, want[len(want)-back])
		}
	}
	s.WriteString(fixedLiterals[256])
	bits := s.String() + last(fixedOf(""))
	checkBits(t, "all distances", bits, string(want))
}

// P4.1: the symbol 284 with all its bits 1 says 258, too.
func TestLongestTwice(t *testing.T) {
	bits := last(fixedHead) + fixedLiterals['a'] + fixedLiterals[284] + "11111" + fixedDistances[0] + fixedLiterals[256]
	checkBits(t, "258 bytes", bits, strings.Repeat("a", 259))
}

// endOf is a block's symbols: bytes, and its end.
func endOf(lens []int, data string) string {
	rows, _ := rowsOf(lens)
	return literalsOf(rows, data) + rows[256]
}

// P4.1: lengths told in all the ways that there are.
func TestTold(t *testing.T) {
	third := allTellers()
	// 97 noughts, 2, 2, 157 noughts, 2, 2, and one nought of distances.
	for what, tells := range map[string][]tell{
		"one by one": plainly(append(ab(), 0)...),
		"in noughts": {{18, 86}, {2, 0}, {2, 0}, {18, 127}, {18, 8}, {2, 0}, {2, 0}, {0, 0}},
		"in fewer":   {{17, 0}, {18, 83}, {2, 0}, {2, 0}, {18, 117}, {17, 7}, {18, 8}, {2, 0}, {2, 0}, {0, 0}},
		"in zeros":   {{0, 0}, {16, 3}, {16, 0}, {18, 76}, {2, 0}, {2, 0}, {18, 120}, {16, 3}, {18, 9}, {2, 0}, {2, 0}, {0, 0}},
	} {
		bits := headOf(258, 1, 19, third) + tellsOf(third, tells)
		checkBits(t, what, last(bits)+endOf(ab(), "abba"), "abba")
		checkBits(t, what, last(bits)+endOf(ab(), ""), "")
	}
}

// P4.1: lengths of literals and of distances stand in one row: what is told as one goes on over the border.
func TestToldOverTheBorder(t *testing.T) {
	third := allTellers()
	bits := headOf(258, 4, 19, third) + tellsOf(third, []tell{{18, 86}, {2, 0}, {2, 0}, {18, 127}, {18, 8}, {2, 0}, {16, 2}})
	rows, _ := rowsOf(ab())
	distances, _ := rowsOf([]int{2, 2, 2, 2})
	bits += literalsOf(rows, "ab") + runOf(rows, distances, 3, 2) + rows[256]
	checkBits(t, "a last one", last(bits), "ababa")

	lens := lengthsWith(258, map[int]int{'a': 1, 256: 1})
	ahead := []tell{{18, 86}, {1, 0}, {18, 127}, {18, 9}, {1, 0}}
	for n, tells := range map[int]tell{9: {17, 7}, 2: {17, 0}, 10: {18, 0}, 30: {18, 20}} {
		bits := headOf(258, n, 19, third) + tellsOf(third, append(ahead[:5:5], tells)) + endOf(lens, "aa")
		checkBits(t, "noughts", last(bits), "aa")
	}
}

// P4.1: each symbol of the third code has its place: in turn each has a shorter row than all others, and each is there.
func TestTellers(t *testing.T) {
	lens := make([]int, 257+5)
	tells := []tell{{18, 89}}
	for i := range 15 {
		lens[100+i] = i + 1
		tells = append(tells, tell{i + 1, 0})
	}
	lens[256], lens[261] = 15, 1
	tells = append(tells, tell{18, 127}, tell{17, 0}, tell{15, 0}, tell{0, 0}, tell{16, 0}, tell{1, 0})
	for symbol := range 19 {
		counts := slices.Repeat([]int{1}, 19)
		counts[symbol] = 1000
		third, e := huff.Lengths(counts, 7)
		if e != api.OK {
			t.Fatal(e)
		}
		bits := headOf(257, 5, 19, third) + tellsOf(third, tells) + endOf(lens[:257], "\x64\x72\x65")
		checkBits(t, "tellers", last(bits), "\x64\x72\x65")
	}
}

// P4.1: all sizes of the lists of lengths that may be told.
func TestToldSizes(t *testing.T) {
	third := allTellers()
	for literals := 257; literals <= 286; literals++ {
		for distances := 1; distances <= 30; distances++ {
			lens := lengthsWith(literals+distances, map[int]int{'x': 1, 256: 1})
			lens[literals+distances-1] = 1
			rows, _ := rowsOf(lens[:literals])
			bits := headOf(literals, distances, 19, third) + tellsOf(third, plainly(lens...)) + rows['x'] + rows[256]
			out, used, e := inflate.Inflate(bytesOf(last(bits)), 1)
			if string(out) != "x" || used != (len(bits)+7)/8 || e != api.OK {
				t.Errorf("%d lengths of literals, %d of distances: %q %d %d", literals, distances, out, used, e)
			}
		}
	}
}

// P4.1, P4.2: as many lengths of the third code as may be told. Those that aren't told are noughts; with the fewest there is no length above 0.
func TestTellersLeftOut(t *testing.T) {
	lens := append(slices.Repeat([]int{8}, 255), 0, 8, 0)
	for n := 5; n <= 19; n++ {
		third := lengthsWith(19, map[int]int{0: 1, 8: 1})
		bits := headOf(257, 1, n, third) + tellsOf(third, plainly(lens...)) + endOf(lens[:257], "yes")
		checkBits(t, "tellers left out", last(bits), "yes")
	}
	third := lengthsWith(19, map[int]int{0: 1, 18: 1})
	bits := headOf(257, 1, 4, third) + tellsOf(third, []tell{{18, 127}, {18, 109}})
	checkFault(t, "no length", bytesOf(last(bits)), 9, api.ErrForm)
}

// P4.1: codes as deep as they may be.
func TestDeepCodes(t *testing.T) {
	lens := make([]int, 286)
	for i := range 15 {
		lens[100+i] = i + 1
	}
	lens[256] = 15
	distances := make([]int, 30)
	for i := range 15 {
		distances[i] = 15 - i
	}
	distances[15] = 15
	rows, _ := rowsOf(lens)
	bits := toldOf(lens, distances) + rows[113] + rows[100] + rows[114] + rows[114] + rows[256]
	checkBits(t, "deep codes", last(bits), "\x71\x64\x72\x72")
}

// P4.1: a block without distances, with one of them, which may be any, and with several.
func TestDistanceCodes(t *testing.T) {
	lens := ab()
	rows, _ := rowsOf(lens)
	text := literalsOf(rows, "abbaabab")
	for n := 1; n <= 30; n++ {
		none := make([]int, n)
		checkBits(t, "none", last(toldOf(lens, none))+text+rows[256], "abbaabab")
		one := append(make([]int, n-1), 1)
		alone, _ := rowsOf(one)
		checkBits(t, "one", last(toldOf(lens, one))+text+rows[256], "abbaabab")
		if n <= 4 {
			want := "abbaabab" + "abbaabab"[8-n:] + "abbaabab"[8-n:] + "abbaabab"[8-n:]
			checkBits(t, "one that is used", last(toldOf(lens, one))+text+rows[257]+alone[n-1]+rows[256], want[:8+3])
		}
	}
	full := []int{1, 0, 2, 2}
	several, _ := rowsOf(full)
	checkBits(t, "several", last(toldOf(lens, full))+text+rows[257]+several[2]+rows[257]+several[0]+rows[256], "abbaabab"+"bab"+"bbb")
}

// P4.1: what compress/flate packs.
func TestPackedByTheLibrary(t *testing.T) {
	text := strings.Repeat("Package: libc6\nStatus: install ok installed\nDepends: libgcc-s1\n\n", 999)
	for what, data := range map[string]string{
		"nothing": "",
		"a byte":  "a",
		"a text":  text,
		"zeros":   strings.Repeat("\x00", 200000),
		"bytes":   someBytes(200000),
		"mixed":   text[:5000] + someBytes(5000) + text[:40000] + someBytes(70000) + text,
		"large":   strings.Repeat(someBytes(30000), 50),
	} {
		for level := flate.HuffmanOnly; level <= flate.BestCompression; level++ {
			var packed bytes.Buffer
			w, err := flate.NewWriter(&packed, level)
			if err != nil {
				t.Fatal(err)
			}
			half := len(data) / 2
			w.Write([]byte(data[:half]))
			w.Flush()
			w.Write([]byte(data[half:]))
			w.Close()
			out, used, e := inflate.Inflate(packed.Bytes(), len(data))
			if string(out) != data || used != packed.Len() || e != api.OK {
				t.Errorf("%s at level %d: %d bytes, %d used of %d, %d", what, level, len(out), used, packed.Len(), e)
			}
		}
	}
}
