package huff_test

import (
	"cmp"
	"math/rand/v2"
	"slices"
	"strconv"
	"strings"

	"drayage/api"
)

// bitsOf is the bits of bytes, as the signs 0 and 1.
func bitsOf(b []byte) string {
	var s strings.Builder
	for _, c := range b {
		for range 8 {
			s.WriteByte('0' + c&1)
			c >>= 1
		}
	}
	return s.String()
}

// bytesOf is the bytes of bits, the last one filled up by noughts.
func bytesOf(bits string) []byte {
	b := make([]byte, (len(bits)+7)/8)
	for i := range bits {
		b[i/8] |= (bits[i] - '0') << (i % 8)
	}
	return b
}

// filledUp is bits up to the end of a byte.
func filledUp(bits string) string {
	return bits + strings.Repeat("0", (8-len(bits)%8)%8)
}

// turned is a text from behind.
func turned(s string) string {
	b := []byte(s)
	slices.Reverse(b)
	return string(b)
}

// written is a number in so many signs, its highest bit first.
func written(v, n int) string {
	if n == 0 {
		return ""
	}
	s := strconv.FormatInt(int64(v), 2)
	return strings.Repeat("0", n-len(s)) + s
}

// rowsOf is the rows that lengths tell, a symbol's each ("": none), and if they fit.
func rowsOf(lens []int) ([]string, bool) {
	var symbols []int
	for symbol, n := range lens {
		if n > 0 {
			symbols = append(symbols, symbol)
		}
	}
	slices.SortStableFunc(symbols, func(a, b int) int { return cmp.Compare(lens[a], lens[b]) })
	rows := make([]string, len(lens))
	row := ""
	for i, symbol := range symbols {
		if i > 0 {
			n, _ := strconv.ParseInt(row, 2, 64)
			row = strconv.FormatInt(n+1, 2)
			row = strings.Repeat("0", max(0, lens[symbols[i-1]]-len(row))) + row
		}
		if i > 0 && len(row) > lens[symbols[i-1]] {
			return nil, false
		}
		row += strings.Repeat("0", lens[symbol]-len(row))
		rows[symbol] = row
	}
	return rows, true
}

// nextOf is what Next answers of rows at bits, and how many bits it takes.
func nextOf(rows []string, bits string) (symbol int, e api.Errno, took int) {
	for took < len(bits) {
		took++
		begun := false
		for symbol, row := range rows {
			if row == bits[:took] {
				return symbol, api.OK, took
			}
			begun = begun || strings.HasPrefix(row, bits[:took])
		}
		if !begun {
			return 0, api.ErrForm, took
		}
	}
	return 0, api.ErrShort, took
}

// allLengths is each list of up to so many lengths, each of them up to most.
func allLengths(symbols, most int) [][]int {
	all := [][]int{nil}
	from := 0
	for range symbols {
		to := len(all)
		for _, lens := range all[from:to] {
			for n := range most + 1 {
				all = append(all, append(slices.Clone(lens), n))
			}
		}
		from = to
	}
	return all
}

// someLengths is lengths of many symbols that fit, some of them full.
func someLengths() [][]int {
	all := [][]int{
		slices.Concat(slices.Repeat([]int{8}, 144), slices.Repeat([]int{9}, 112), slices.Repeat([]int{7}, 24), slices.Repeat([]int{8}, 8)),
		slices.Repeat([]int{5}, 32),
		{1, 2, 3, 4, 5, 6, 7, 8, 9, 10, 11, 12, 13, 14, 15, 15},
		{15, 15, 14, 13, 12, 11, 10, 9, 8, 7, 6, 5, 4, 3, 2, 1},
		{1, 2, 3, 4, 5, 6, 7, 8, 9, 10, 11, 12, 13, 14, 15},
		{15},
		{0, 15, 0, 1, 0},
		slices.Repeat([]int{15}, api.MaxSyms),
		slices.Concat(slices.Repeat([]int{9}, 128), slices.Repeat([]int{8}, 192)),
	}
	random := rand.New(rand.NewPCG(3, 4))
	for range 60 {
		lens := make([]int, random.IntN(api.MaxSyms+1))
		for i := range lens {
			lens[i] = random.IntN(api.MaxBits + 1)
		}
		// Symbols lose their rows till the lengths fit.
		for i := range lens {
			if _, fit := rowsOf(lens); fit {
				break
			}
			lens[i] = 0
		}
		all = append(all, lens)
	}
	return all
}
