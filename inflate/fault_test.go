package inflate_test

import (
	"bytes"
	"math/rand/v2"
	"slices"
	"strings"
	"testing"

	"drayage/api"
	"drayage/inflate"
)

// met is bits that end where a fault is met, and what is wrong then if so many bytes may come.
type met struct {
	what string
	bits string
	most int
	e    api.Errno
}

const enough = 99999

// P4.2: each fault, where it is met: whatever lies behind, and at each place in a byte. Ahead of it there is nothing wrong but that bits lack.
func TestFaults(t *testing.T) {
	for _, m := range slices.Concat(faultsOfBlocks(), faultsOfTold(), faultsOfCodes(), faultsOfSymbols(), faultsOfMost()) {
		for ahead := range 8 {
			// Each of these takes 19 bits; with what is 0 bits behind, all places in a byte come up.
			bits := strings.Repeat(fixedOf("\x90"), ahead) + m.bits
			most := m.most + ahead
			for _, more := range []string{"", "1111111", "01", strings.Repeat("1", 500), strings.Repeat("0", 500)} {
				checkFault(t, m.what, bytesOf(bits+more), most, m.e)
			}
			for n := range (len(bits) + 7) / 8 {
				checkFault(t, m.what+", cut", bytesOf(bits)[:n], most, api.ErrShort)
			}
		}
	}
}

// P4.2: a stored block's faults hang on whole bytes.
func TestStoredFaults(t *testing.T) {
	for _, c := range []struct {
		b    string
		most int
		e    api.Errno
	}{
		{"\x01", enough, api.ErrShort},
		{"\x01\x02", enough, api.ErrShort},
		{"\x01\x02\x00", enough, api.ErrShort},
		{"\x01\x02\x00\x00", enough, api.ErrShort},
		{"\x01\x02\x00\xfd", enough, api.ErrShort},
		{"\x01\x02\x00\xfd\xff", enough, api.ErrShort},
		{"\x01\x02\x00\xfd\xffa", enough, api.ErrShort},
		{"\x01\x02\x00\xfe\xff", enough, api.ErrForm},
		{"\x01\x02\x00\xfe\xffab", enough, api.ErrForm},
		{"\x01\x02\x00\xfd\xfe", enough, api.ErrForm},
		{"\x01\x02\x00\xfd\x7f", enough, api.ErrForm},
		{"\x01\x02\x00\x02\x00ab", enough, api.ErrForm},
		{"\x01\x02\x00\xff\xfdab", enough, api.ErrForm},
		{"\x01\x00\x02\xfd\xffab", enough, api.ErrForm},
		{"\x01\xff\xff\xff\xff", enough, api.ErrForm},
		{"\x01\x00\x00\x00\x00", enough, api.ErrForm},
		{"\x00\x00\x00\xff\xff", enough, api.ErrShort},
		{"\x00\x00\x00\xff\xff\x01", enough, api.ErrShort},
		// The second number is asked ahead of the bytes, and these ahead of most.
		{"\x01\x02\x00\xfe\xff", 0, api.ErrForm},
		{"\x01\x02\x00\xfd\xffa", 0, api.ErrShort},
		{"\x01\x02\x00\xfd\xffa", 1, api.ErrShort},
		{"\x01\x02\x00\xfd\xffab", 1, api.ErrLarge},
		{"\x01\x02\x00\xfd\xffab", 0, api.ErrLarge},
		{"\x00\x02\x00\xfd\xffab\x01\x01\x00\xfe\xffc", 2, api.ErrLarge},
		{"\x00\x02\x00\xfd\xffab\x01\x01\x00\xfe\xff", 2, api.ErrShort},
		{"\x00\x02\x00\xfd\xffab\x01\x01\x00\xff\xff", 2, api.ErrForm},
	} {
		checkFault(t, "stored: "+brief([]byte(c.b)), []byte(c.b), c.most, c.e)
	}
}

func faultsOfBlocks() []met {
	return []met{
		{"kind 3", "011", enough, api.ErrForm},
		{"kind 3, last", "111", enough, api.ErrForm},
		{"kind 3, nothing may come", "011", 0, api.ErrForm},
		{"kind 3 behind a block", fixedOf("ab") + "011", enough, api.ErrForm},
		{"kind 3 behind a block of kind 2", toldOf(ab(), []int{0}) + endOf(ab(), "ab") + "111", enough, api.ErrForm},
	}
}

// faultsOfTold is faults ahead of a block's codes.
func faultsOfTold() []met {
	third := allTellers()
	head := headOf(258, 1, 19, third)
	told := func(tells ...tell) string {
		return head + tellsOf(third, tells)
	}
	noughts := tell{18, 127} // 138
	all := []met{
		{"287 lengths of literals", toldHead + number(30, 5) + number(0, 5) + number(0, 4), enough, api.ErrForm},
		{"288 lengths of literals", toldHead + number(31, 5) + number(29, 5) + number(15, 4), enough, api.ErrForm},
		{"31 lengths of distances", toldHead + number(0, 5) + number(30, 5) + number(0, 4), enough, api.ErrForm},
		{"32 lengths of distances", toldHead + number(29, 5) + number(31, 5) + number(15, 4), enough, api.ErrForm},
		{"too many of both", toldHead + number(31, 5) + number(31, 5) + number(7, 4), 0, api.ErrForm},
		{"16 first", head + tellOf(third, 16), enough, api.ErrForm},
		{"16 first, last block", last(head) + tellOf(third, 16), 0, api.ErrForm},
		{"18 tells too many", told(noughts, tell{18, 111}), enough, api.ErrForm},
		{"18 tells far too many", told(noughts, noughts), enough, api.ErrForm},
		{"17 tells too many", told(noughts, tell{18, 107}, tell{17, 0}), enough, api.ErrForm},
		{"17 tells far too many", told(noughts, tell{18, 109}, tell{17, 7}), enough, api.ErrForm},
		{"16 tells too many", told(noughts, tell{18, 107}, tell{16, 0}), enough, api.ErrForm},
		{"16 tells one too many", told(noughts, tell{18, 105}, tell{16, 2}), enough, api.ErrForm},
		{"16 tells far too many", told(noughts, tell{18, 109}, tell{16, 3}), enough, api.ErrForm},
		{"18 tells too many with the fewest noughts", told(append([]tell{noughts}, plainly(make([]int, 111)...)...)...) + tellOf(third, 18) + number(0, 7), enough, api.ErrForm},
	}
	all = append(all, faultsOfTellsCut()...)
	for n := 4; n <= 19; n++ {
		for what, third := range map[string][]int{
			"of no symbol":            nil,
			"of one symbol":           {18: 1},
			"of one symbol, deep":     {16: 7},
			"of two that aren't full": {16: 1, 17: 2, 18: 0},
			"that is almost full":     {0: 2, 16: 1, 17: 3},
			"that doesn't fit":        {0: 1, 16: 1, 17: 7},
			"of three of length 1":    {16: 1, 17: 1, 18: 1},
			"of sevens":               slices.Repeat([]int{7}, 19),
			"of threes":               {0: 3, 16: 3, 17: 3, 18: 3},
			"of fours":                slices.Repeat([]int{4}, 15),
		} {
			third = append(third, make([]int, 19-len(third))...)
			all = append(all, met{"a third code " + what, headOf(257, 1, n, third), enough, api.ErrForm})
		}
	}
	return all
}

// faultsOfTellsCut is symbols by which too many lengths are told. Cut, these have rows of symbols where bits of the number lack: a 16 that comes first, or the last length.
func faultsOfTellsCut() []met {
	of18 := lengthsWith(19, map[int]int{16: 1, 0: 2, 18: 2})
	of17 := lengthsWith(19, map[int]int{16: 1, 17: 2, 18: 2})
	of16 := lengthsWith(19, map[int]int{0: 1, 16: 2, 18: 2})
	tooMany := []tell{{18, 127}, {18, 127}}
	return []met{
		{"bits of 18", headOf(257, 1, 19, of18) + tellsOf(of18, append([]tell{{18, 0}}, tooMany...)), enough, api.ErrForm},
		{"bits of 17", headOf(257, 1, 19, of17) + tellsOf(of17, append([]tell{{17, 0}}, tooMany...)), enough, api.ErrForm},
		{"bits of 16", headOf(257, 1, 19, of16) + tellsOf(of16, []tell{{18, 127}, {18, 108}, {16, 2}}), enough, api.ErrForm},
	}
}

// tellOf is the row of a symbol by which lengths are told, without the bits behind it.
func tellOf(third []int, symbol int) string {
	rows, _ := rowsOf(third)
	return rows[symbol]
}

// faultsOfCodes is codes of literals and of distances that are wrong.
func faultsOfCodes() []met {
	right := ab()
	wrong := func(change func(lens []int)) []int {
		lens := slices.Clone(right)
		change(lens)
		return lens
	}
	deep := lengthsWith(258, map[int]int{256: 15})
	for i := range 14 {
		deep[i] = i + 1
	}
	all := []met{}
	for what, lens := range map[string][]int{
		"no end":             wrong(func(lens []int) { lens[256], lens[255] = 0, 2 }),
		"no symbol":          make([]int, 258),
		"the end alone":      lengthsWith(258, map[int]int{256: 1}),
		"the end alone, two": lengthsWith(257, map[int]int{256: 2}),
		"not full":           wrong(func(lens []int) { lens['a'] = 3 }),
		"one lacks":          wrong(func(lens []int) { lens['a'] = 0 }),
		"too many":           wrong(func(lens []int) { lens['c'] = 15 }),
		"far too many":       slices.Repeat([]int{1}, 286),
		"the last row lacks": deep,
		"a hair too many":    append(slices.Repeat([]int{8}, 257), 15),
	} {
		all = append(all, met{"literals: " + what, toldOf(lens, []int{0}), enough, api.ErrForm})
	}
	for what, lens := range map[string][]int{
		"one of length 2":      {2},
		"one of length 15":     {0, 0, 15},
		"one of length 2, far": append(make([]int, 29), 2),
		"two":                  {2, 2},
		"1 and 2":              {1, 2},
		"2 and 1":              {0, 2, 0, 1},
		"1 and 15":             {1, 15},
		"three":                {2, 2, 0, 2},
		"ones, three":          {1, 1, 1},
		"too many":             {1, 1, 15},
		"all of 4":             slices.Repeat([]int{4}, 17),
		"all of 5":             slices.Repeat([]int{5}, 30),
		"all of 1":             slices.Repeat([]int{1}, 30),
		"the last row lacks":   {1, 2, 3, 4, 5, 6, 7, 8, 9, 10, 11, 12, 13, 14, 15},
	} {
		all = append(all, met{"distances: " + what, toldOf(right, lens), enough, api.ErrForm})
	}
	return all
}

// faultsOfSymbols is symbols that are wrong, and rows that are none.
func faultsOfSymbols() []met {
	text := fixedHead + literalsOf(fixedLiterals, "abcd")
	all := []met{
		{"literal 286", fixedHead + fixedLiterals[286], enough, api.ErrForm},
		{"literal 287", text + fixedLiterals[287], enough, api.ErrForm},
		{"literal 286, nothing may come", fixedHead + fixedLiterals[286], 0, api.ErrForm},
	}
	for s := 257; s <= 285; s++ {
		ones := strings.Repeat("1", lengthBits[s-257])
		for t := 30; t <= 31; t++ {
			all = append(all, met{"distance above 29", text + fixedLiterals[s] + ones + fixedDistances[t], enough, api.ErrForm})
		}
	}
	// There are 4 bytes, and up to 7 ahead of them.
	for _, back := range []int{12, 13, 16, 17, 100, 24577, 32768} {
		for _, length := range []int{3, 10, 11, 257, 258} {
			all = append(all, met{"ahead of all", text + fixedRun(length, back), enough, api.ErrForm})
			all = append(all, met{"ahead of all, and too much", text + fixedRun(length, back), 4, api.ErrForm})
		}
	}
	rows, _ := rowsOf(ab())
	for what, lens := range map[string][]int{"none": {0, 0, 0}, "one": {1}, "another one": {0, 0, 1}} {
		ahead := toldOf(ab(), lens) + literalsOf(rows, "abab") + rows[257]
		all = append(all, met{"no row, of " + what, ahead + "1", enough, api.ErrForm})
		if slices.Max(lens) == 0 {
			all = append(all, met{"no row, of none", ahead + "0", 4, api.ErrForm})
		}
	}
	// Cut, these have a row of a distance where bits of a length lack.
	long := lengthsWith(286, map[int]int{'a': 2, 'b': 2, 256: 2, 281: 3, 284: 3})
	rows, _ = rowsOf(long)
	for _, lens := range [][]int{{0}, {1}, {0, 0, 1}} {
		ahead := toldOf(long, lens) + literalsOf(rows, "ab")
		all = append(all, met{"no row behind bits of 281", ahead + rows[281] + "11111" + "1", enough, api.ErrForm})
		all = append(all, met{"no row behind bits of 284", ahead + rows[284] + "11111" + "1", enough, api.ErrForm})
	}
	return all
}

// P4.2: copies that begin at the first byte, and one ahead of it.
func TestAheadOfAll(t *testing.T) {
	for n := range 70 {
		data := someBytes(n)
		text := last(fixedHead) + literalsOf(fixedLiterals, data)
		checkFault(t, "ahead of all", bytesOf(text+fixedRun(5, n+1)+fixedLiterals[256]), enough, api.ErrForm)
		if n > 0 {
			checkBits(t, "from the first byte", text+fixedRun(5, n)+fixedLiterals[256], data+strings.Repeat(data, 5)[:5])
		}
		// What other blocks put down counts, too.
		text = storedAt(0, data) + text
		checkFault(t, "ahead of all blocks", bytesOf(text+fixedRun(5, 2*n+1)+fixedLiterals[256]), enough, api.ErrForm)
		if n > 0 {
			checkBits(t, "from the first block's first byte", text+fixedRun(5, 2*n)+fixedLiterals[256], data+data+strings.Repeat(data, 5)[:5])
		}
	}
}

// faultsOfMost is what is right, but too much.
func faultsOfMost() []met {
	text := fixedHead + literalsOf(fixedLiterals, "abcd")
	rows, _ := rowsOf(ab())
	all := []met{
		{"a byte", fixedHead + fixedLiterals[0], 0, api.ErrLarge},
		{"a byte of 9 bits", fixedHead + fixedLiterals[255], 0, api.ErrLarge},
		{"a fifth byte", text + fixedLiterals['e'], 4, api.ErrLarge},
		{"a byte behind a block", fixedOf("abcd") + last(fixedHead) + fixedLiterals['e'], 4, api.ErrLarge},
		{"a byte of kind 2", toldOf(ab(), []int{0}) + rows['b'], 0, api.ErrLarge},
	}
	for _, length := range []int{3, 4, 10, 11, 12, 18, 19, 257, 258} {
		for back := 1; back <= 4; back++ {
			for _, less := range []int{1, 2, length - 1, length} {
				all = append(all, met{"a copy", text + fixedRun(length, back), 4 + length - less, api.ErrLarge})
			}
		}
	}
	return all
}

// P4.2: bits that lack in the middle of all that there is.
func TestCut(t *testing.T) {
	for _, b := range packings() {
		for n := range b {
			checkFault(t, "cut", b[:n], api.MaxOut, api.ErrShort)
		}
	}
}

// packings is packed bytes of many kinds, not too long ones, all right.
func packings() [][]byte {
	rows, _ := rowsOf(ab())
	full := []int{1, 0, 2, 2}
	distances, _ := rowsOf(full)
	text := literalsOf(rows, "abbaabab")
	third := allTellers()
	all := []string{
		fixedOf(""),
		fixedOf("drayage\xff\x90"),
		storedAt(0, "abc"),
		storedAt(0, ""),
		fixedHead + literalsOf(fixedLiterals, "abc") + fixedRun(3, 1) + fixedRun(258, 4) + fixedRun(100, 200) + fixedLiterals[256],
		toldOf(ab(), []int{1}) + text + rows[257] + "0" + rows[256],
		toldOf(ab(), full) + text + rows[257] + distances[2] + rows[257] + distances[0] + rows[256],
		headOf(258, 1, 19, third) + tellsOf(third, []tell{{18, 86}, {2, 0}, {2, 0}, {18, 127}, {18, 8}, {2, 0}, {2, 0}, {0, 0}}) + text + rows[256],
		headOf(258, 4, 19, third) + tellsOf(third, []tell{{17, 0}, {18, 83}, {2, 0}, {2, 0}, {18, 117}, {17, 7}, {18, 8}, {2, 0}, {16, 2}}) + text + rows[256],
	}
	var packed [][]byte
	for i, block := range all {
		packed = append(packed, bytesOf(last(block)))
		behind := all[(i+1)%len(all)]
		if !strings.HasPrefix(behind, storedHead) {
			packed = append(packed, bytesOf(block+last(behind)))
		}
		packed = append(packed, bytesOf(block+last(storedAt(len(block), "xyz"))))
	}
	return packed
}

// checkModel holds Inflate against the model.
func checkModel(t *testing.T, b []byte, most int) {
	t.Helper()
	want, wantUsed, wantE := modelOf(b, most)
	out, used, e := inflate.Inflate(b, most)
	if !bytes.Equal(out, want) || used != wantUsed || e != wantE {
		t.Errorf("%s, most %d: %s %d %d, not %s %d %d", brief(b), most, brief(out), used, e, brief(want), wantUsed, wantE)
	}
}

// P4.1, P4.2: all that there is of one byte and of two, some of more.
func TestAnyBytes(t *testing.T) {
	for v := range 1 << 16 {
		b := []byte{byte(v), byte(v >> 8)}
		checkModel(t, b, 2)
		if v < 256 {
			checkModel(t, b[:1], 2)
		}
	}
	random := rand.New(rand.NewPCG(4, 1))
	for range 20000 {
		b := make([]byte, 3+random.IntN(60))
		for i := range b {
			b[i] = byte(random.UintN(256))
		}
		checkModel(t, b, random.IntN(40))
	}
}

// P4.1, P4.2: packings with bits that are changed, moved, left out.
func TestSpoiledPackings(t *testing.T) {
	random := rand.New(rand.NewPCG(4, 2))
	for _, packed := range packings() {
		bits := bitsOf(packed)
		for i := range bits {
			other := "0"
			if bits[i] == '0' {
				other = "1"
			}
			checkModel(t, bytesOf(bits[:i]+other+bits[i+1:]), 500)
			checkModel(t, bytesOf(bits[:i]+bits[i+1:]), 500)
			checkModel(t, bytesOf(bits[:i]+other+bits[i:]), 500)
		}
		for range 100 {
			b := bytes.Clone(packed)
			for range 1 + random.IntN(4) {
				b[random.IntN(len(b))] ^= 1 << random.IntN(8)
			}
			checkModel(t, b[:len(b)-random.IntN(3)], random.IntN(300))
		}
	}
}
