package huff

import "drayage/api"

// allRows is how many rows of the greatest length there are.
const allRows = 1 << api.MaxBits

// Check tells what is wrong with lengths.
func Check(lens []int) api.Errno {
	if len(lens) > api.MaxSyms {
		return api.ErrLarge
	}
	for _, n := range lens {
		if n < 0 || n > api.MaxBits {
			return api.ErrArg
		}
	}
	if taken(lens) > allRows {
		return api.ErrForm
	}
	return api.OK
}

// Full tells whether lengths are full.
func Full(lens []int) bool {
	return Check(lens) == api.OK && taken(lens) == allRows
}

// taken is how many rows of the greatest length begin with a code's rows.
func taken(lens []int) int {
	rows := 0
	for _, n := range lens {
		if n > 0 {
			rows += allRows >> n
		}
	}
	return rows
}

// Codes is each symbol's row.
func Codes(lens []int) ([]int, api.Errno) {
	if e := Check(lens); e != api.OK {
		return nil, e
	}
	next := firstRows(lens)
	codes := make([]int, len(lens))
	for symbol, n := range lens {
		if n > 0 {
			codes[symbol] = next[n]
			next[n]++
		}
	}
	return codes, api.OK
}

// firstRows is, by lengths, the first row of a length, whether or not a symbol has it.
func firstRows(lens []int) [api.MaxBits + 1]int {
	var symbols [api.MaxBits + 1]int
	for _, n := range lens {
		symbols[n]++
	}
	symbols[0] = 0 // they have no rows
	var first [api.MaxBits + 1]int
	for n := range api.MaxBits {
		first[n+1] = (first[n] + symbols[n]) << 1
	}
	return first
}
