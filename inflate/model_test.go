package inflate_test

import (
	"cmp"
	"math/rand/v2"
	"slices"
	"strconv"
	"strings"

	"drayage/api"
)

// bitsOf is the bits of bytes, as the signs 0 and 1.
func bitsOf(b []byte) string {
	var s strings.Builder
	for _, c := range b {
		for range 8 {
			s.WriteByte('0' + c&1)
			c >>= 1
		}
	}
	return s.String()
}

// bytesOf is the bytes of bits, the last one filled up by noughts.
func bytesOf(bits string) []byte {
	b := make([]byte, (len(bits)+7)/8)
	for i := range bits {
		b[i/8] |= (bits[i] - '0') << (i % 8)
	}
	return b
}

// rowOf is a number in so many signs, its highest bit first.
func rowOf(v, n int) string {
	if n == 0 {
		return ""
	}
	s := strconv.FormatInt(int64(v), 2)
	return strings.Repeat("0", n-len(s)) + s
}

// number is a number of n bits, its lowest one first.
func number(v, n int) string {
	b := []byte(rowOf(v, n))
	slices.Reverse(b)
	return string(b)
}

// rowsOf is the rows that lengths tell, a symbol's each ("": none), and how much of all that there may be they take, in parts of 2^15.
func rowsOf(lens []int) (rows []string, taken int) {
	var symbols []int
	for symbol, n := range lens {
		if n > 0 {
			symbols = append(symbols, symbol)
			taken += 1 << (15 - n)
		}
	}
	rows = make([]string, len(lens))
	if taken > 1<<15 {
		return rows, taken
	}
	slices.SortStableFunc(symbols, func(a, b int) int { return cmp.Compare(lens[a], lens[b]) })
	ahead := 0
	for _, symbol := range symbols {
		rows[symbol] = rowOf(ahead>>(15-lens[symbol]), lens[symbol])
		ahead += 1 << (15 - lens[symbol])
	}
	return rows, taken
}

// What a length's and a distance's symbols say without the bits behind them, and how many these are.
var (
	lengthFrom   = []int{3, 4, 5, 6, 7, 8, 9, 10, 11, 13, 15, 17, 19, 23, 27, 31, 35, 43, 51, 59, 67, 83, 99, 115, 131, 163, 195, 227, 258}
	lengthBits   = []int{0, 0, 0, 0, 0, 0, 0, 0, 1, 1, 1, 1, 2, 2, 2, 2, 3, 3, 3, 3, 4, 4, 4, 4, 5, 5, 5, 5, 0}
	distanceFrom = []int{1, 2, 3, 4, 5, 7, 9, 13, 17, 25, 33, 49, 65, 97, 129, 193, 257, 385, 513, 769, 1025, 1537, 2049, 3073, 4097, 6145, 8193, 12289, 16385, 24577}
	distanceBits = []int{0, 0, 0, 0, 1, 1, 2, 2, 3, 3, 4, 4, 5, 5, 6, 6, 7, 7, 8, 8, 9, 9, 10, 10, 11, 11, 12, 12, 13, 13}
	tellerOrder  = []int{16, 17, 18, 0, 8, 7, 9, 6, 10, 5, 11, 4, 12, 3, 13, 2, 14, 1, 15}
)

// Rows of blocks of kind 1.
var (
	fixedLiterals, _  = rowsOf(slices.Concat(slices.Repeat([]int{8}, 144), slices.Repeat([]int{9}, 112), slices.Repeat([]int{7}, 24), slices.Repeat([]int{8}, 8)))
	fixedDistances, _ = rowsOf(slices.Repeat([]int{5}, 32))
)

// model unpacks bits as the chapter tells it, sign by sign; it panics with what is wrong.
type model struct {
	bits string
	at   int
	out  []byte
	most int
}

// modelOf is what Inflate should answer.
func modelOf(b []byte, most int) (out []byte, used int, e api.Errno) {
	if most < 0 || most > 1<<24 {
		return nil, 0, api.ErrArg
	}
	m := &model{bits: bitsOf(b), most: most}
	defer func() {
		if is, ok := recover().(api.Errno); ok {
			out, used, e = nil, 0, is
		}
	}()
	for !m.block() {
	}
	return m.out, (m.at + 7) / 8, api.OK
}

func (m *model) bit() byte {
	if m.at == len(m.bits) {
		panic(api.ErrShort)
	}
	m.at++
	return m.bits[m.at-1]
}

func (m *model) number(n int) int {
	v := 0
	for i := range n {
		v += int(m.bit()-'0') * (1 << i)
	}
	return v
}

// symbol goes on bit by bit, till what is there is a row or the beginning of none.
func (m *model) symbol(rows []string) int {
	row := ""
	for {
		row += string(m.bit())
		begun := false
		for symbol, r := range rows {
			if r == row {
				return symbol
			}
			begun = begun || strings.HasPrefix(r, row)
		}
		if !begun {
			panic(api.ErrForm)
		}
	}
}

func (m *model) more(b ...byte) {
	if len(m.out)+len(b) > m.most {
		panic(api.ErrLarge)
	}
	m.out = append(m.out, b...)
}

func (m *model) block() (last bool) {
	last = m.bit() == '1'
	switch m.number(2) {
	case 0:
		m.stored()
	case 1:
		m.symbols(fixedLiterals, fixedDistances)
	case 2:
		m.symbols(m.told())
	case 3:
		panic(api.ErrForm)
	}
	return last
}

func (m *model) stored() {
	for m.at%8 != 0 {
		m.at++
	}
	n := m.number(16)
	if m.number(16) != 65535-n {
		panic(api.ErrForm)
	}
	var b []byte
	for range n {
		b = append(b, byte(m.number(8)))
	}
	m.more(b...)
}

func (m *model) symbols(literals, distances []string) {
	for {
		s := m.symbol(literals)
		switch {
		case s < 256:
			m.more(byte(s))
			continue
		case s == 256:
			return
		case s > 285:
			panic(api.ErrForm)
		}
		length := lengthFrom[s-257] + m.number(lengthBits[s-257])
		t := m.symbol(distances)
		if t > 29 {
			panic(api.ErrForm)
		}
		back := distanceFrom[t] + m.number(distanceBits[t])
		if back > len(m.out) {
			panic(api.ErrForm)
		}
		again := slices.Clone(m.out[len(m.out)-back:])
		for len(again) < length {
			again = append(again, again...)
		}
		m.more(again[:length]...)
	}
}

func (m *model) told() (literals, distances []string) {
	l, d, c := m.number(5)+257, m.number(5)+1, m.number(4)+4
	if l > 286 || d > 30 {
		panic(api.ErrForm)
	}
	third := make([]int, 19)
	for _, symbol := range tellerOrder[:c] {
		third[symbol] = m.number(3)
	}
	rows, taken := rowsOf(third)
	if taken != 1<<15 {
		panic(api.ErrForm)
	}
	lens := m.lengths(rows, l+d)
	literals, all := rowsOf(lens[:l])
	distances, part := rowsOf(lens[l:])
	if lens[256] == 0 || all != 1<<15 {
		panic(api.ErrForm)
	}
	ones, others := 0, 0
	for _, n := range lens[l:] {
		if n == 1 {
			ones++
		} else if n > 1 {
			others++
		}
	}
	if part != 1<<15 && (ones > 1 || others > 0) {
		panic(api.ErrForm)
	}
	return literals, distances
}

func (m *model) lengths(rows []string, n int) []int {
	var lens []int
	for len(lens) < n {
		switch s := m.symbol(rows); s {
		case 16:
			if len(lens) == 0 {
				panic(api.ErrForm)
			}
			lens = append(lens, slices.Repeat(lens[len(lens)-1:], 3+m.number(2))...)
		case 17:
			lens = append(lens, make([]int, 3+m.number(3))...)
		case 18:
			lens = append(lens, make([]int, 11+m.number(7))...)
		default:
			lens = append(lens, s)
		}
		if len(lens) > n {
			panic(api.ErrForm)
		}
	}
	return lens
}

// Heads of blocks.
const (
	storedHead = "000"
	fixedHead  = "010"
	toldHead   = "001"
)

// last makes a block the last one.
func last(block string) string {
	return "1" + block[1:]
}

// storedAt is a block of kind 0 behind so many bits.
func storedAt(at int, data string) string {
	noughts := strings.Repeat("0", (8-(at+3)%8)%8)
	return storedHead + noughts + number(len(data), 16) + number(65535-len(data), 16) + bitsOf([]byte(data))
}

// literalsOf is the rows of bytes.
func literalsOf(rows []string, data string) string {
	var s strings.Builder
	for i := range len(data) {
		s.WriteString(rows[data[i]])
	}
	return s.String()
}

// symbolOf is the last symbol that says no more than a number, and the bits behind it.
func symbolOf(v int, from, bits []int) (int, string) {
	symbol := 0
	for symbol+1 < len(from) && from[symbol+1] <= v {
		symbol++
	}
	return symbol, number(v-from[symbol], bits[symbol])
}

// runOf is the bits of a copy.
func runOf(literals, distances []string, length, back int) string {
	s, more := symbolOf(length, lengthFrom, lengthBits)
	t, farther := symbolOf(back, distanceFrom, distanceBits)
	return literals[257+s] + more + distances[t] + farther
}

// fixedRun is runOf of kind 1.
func fixedRun(length, back int) string {
	return runOf(fixedLiterals, fixedDistances, length, back)
}

// fixedOf is a block of kind 1 of bytes.
func fixedOf(data string) string {
	return fixedHead + literalsOf(fixedLiterals, data) + fixedLiterals[256]
}

// tell is a symbol by which lengths are told, and the number behind it.
type tell struct {
	symbol, more int
}

// plainly is lengths told one by one.
func plainly(lens ...int) []tell {
	var tells []tell
	for _, n := range lens {
		tells = append(tells, tell{n, 0})
	}
	return tells
}

// allTellers is a full third code that has all symbols.
func allTellers() []int {
	return append(slices.Repeat([]int{4}, 13), slices.Repeat([]int{5}, 6)...)
}

// headOf is the beginning of a block of kind 2, up to the lengths of the third code, of which so many are there.
func headOf(literals, distances, tellers int, third []int) string {
	s := toldHead + number(literals-257, 5) + number(distances-1, 5) + number(tellers-4, 4)
	for _, symbol := range tellerOrder[:tellers] {
		s += number(third[symbol], 3)
	}
	return s
}

// tellsOf is symbols of a third code, with the numbers behind them.
func tellsOf(third []int, tells []tell) string {
	rows, _ := rowsOf(third)
	var s strings.Builder
	for _, t := range tells {
		s.WriteString(rows[t.symbol])
		switch t.symbol {
		case 16:
			s.WriteString(number(t.more, 2))
		case 17:
			s.WriteString(number(t.more, 3))
		case 18:
			s.WriteString(number(t.more, 7))
		}
	}
	return s.String()
}

// toldOf is the beginning of a block of kind 2, up to its symbols, with all lengths told one by one.
func toldOf(literals, distances []int) string {
	return headOf(len(literals), len(distances), 19, allTellers()) + tellsOf(allTellers(), plainly(slices.Concat(literals, distances)...))
}

// lengthsWith is n lengths, of which a few symbols have one.
func lengthsWith(n int, some map[int]int) []int {
	lens := make([]int, n)
	for symbol, length := range some {
		lens[symbol] = length
	}
	return lens
}

// ab is lengths by which literals a, b, the end and the symbol of the length 3 have rows.
func ab() []int {
	return lengthsWith(258, map[int]int{'a': 2, 'b': 2, 256: 2, 257: 2})
}

// someBytes is bytes of no order.
func someBytes(n int) string {
	random := rand.New(rand.NewPCG(uint64(n), 4))
	b := make([]byte, n)
	for i := range b {
		b[i] = byte(random.UintN(256))
	}
	return string(b)
}
