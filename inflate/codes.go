package inflate

import (
	"slices"

	"drayage/api"
	"drayage/huff"
)

// codes is the two codes of a block's symbols.
type codes struct {
	literals, distances *huff.Tree
}

// fixedCodes is the codes of blocks that tell none.
func fixedCodes() *codes {
	literals, _ := huff.NewTree(slices.Concat(
		slices.Repeat([]int{8}, 144),
		slices.Repeat([]int{9}, 112),
		slices.Repeat([]int{7}, 24),
		slices.Repeat([]int{8}, 8),
	))
	distances, _ := huff.NewTree(slices.Repeat([]int{5}, 32))
	return &codes{literals, distances}
}

// tellers is the symbols of the code by which lengths are told, in the order in which their own lengths stand.
var tellers = [19]int{16, 17, 18, 0, 8, 7, 9, 6, 10, 5, 11, 4, 12, 3, 13, 2, 14, 1, 15}

// The symbols by which more than one length is told.
const (
	lastAgain   = 16
	fewNoughts  = 17
	manyNoughts = 18
)

const (
	countBits  = 5 + 5 + 4 // of the three counts of lengths ahead of a block's codes
	tellerBits = 3         // of a length of the code by which lengths are told
)

// toldCodes reads the codes that a block tells.
func (u *unpacker) toldCodes() (*codes, api.Errno) {
	counts, ok := u.bits.Take(countBits)
	if !ok {
		return nil, api.ErrShort
	}
	literals, distances := counts&31+257, counts>>5&31+1
	if literals > blockEnd+1+mostLengths || distances > mostDistances {
		return nil, api.ErrForm
	}
	teller, e := u.teller(counts>>10 + 4)
	if e != api.OK {
		return nil, e
	}
	lens, e := u.lengths(teller, literals+distances)
	if e != api.OK {
		return nil, e
	}
	return codesOf(lens[:literals], lens[literals:])
}

// teller reads the code by which lengths are told, of which so many lengths stand there.
func (u *unpacker) teller(n int) (*huff.Tree, api.Errno) {
	lens := make([]int, len(tellers))
	for i := range n {
		length, ok := u.bits.Take(tellerBits)
		if !ok {
			return nil, api.ErrShort
		}
		lens[tellers[i]] = length
	}
	if !huff.Full(lens) {
		return nil, api.ErrForm
	}
	return huff.NewTree(lens)
}

// lengths reads so many lengths.
func (u *unpacker) lengths(teller *huff.Tree, n int) ([]int, api.Errno) {
	var lens []int
	for len(lens) < n {
		symbol, e := teller.Next(u.bits)
		if e != api.OK {
			return nil, e
		}
		length, times, bits := symbol, 1, 0
		switch symbol {
		case lastAgain:
			if len(lens) == 0 {
				return nil, api.ErrForm
			}
			length, times, bits = lens[len(lens)-1], 3, 2
		case fewNoughts:
			length, times, bits = 0, 3, 3
		case manyNoughts:
			length, times, bits = 0, 11, 7
		}
		if times, e = u.plus(times, bits); e != api.OK {
			return nil, e
		}
		if times > n-len(lens) {
			return nil, api.ErrForm
		}
		lens = append(lens, slices.Repeat([]int{length}, times)...)
	}
	return lens, api.OK
}

// codesOf is the codes of two lists of lengths that a block tells.
func codesOf(literals, distances []int) (*codes, api.Errno) {
	if literals[blockEnd] == 0 || !huff.Full(literals) || !fewOrFull(distances) {
		return nil, api.ErrForm
	}
	// Lengths like these have a tree.
	c := &codes{}
	c.literals, _ = huff.NewTree(literals)
	c.distances, _ = huff.NewTree(distances)
	return c, api.OK
}

// fewOrFull tells if lengths of distances are right: a block may have no distance, or one alone, whose length is 1 then.
func fewOrFull(lens []int) bool {
	sum := 0
	for _, n := range lens {
		sum += n
	}
	return sum <= 1 || huff.Full(lens)
}
