package deflate

import (
	"slices"

	"drayage/api"
	"drayage/huff"
)

// code is symbols' lengths and rows.
type code struct {
	lens, rows []int
}

// codes is the two codes of a block's symbols.
type codes struct {
	literals, distances code
}

// codeOf is the code of lengths that fit.
func codeOf(lens []int) code {
	rows, _ := huff.Codes(lens)
	return code{lens, rows}
}

// bestCode is the code for symbols that come so often.
func bestCode(counts []int, most int) code {
	lens, _ := huff.Lengths(counts, most)
	return codeOf(lens)
}

// fixedCodes is the codes of blocks that tell none.
func fixedCodes() codes {
	return codes{
		codeOf(slices.Concat(
			slices.Repeat([]int{8}, 144),
			slices.Repeat([]int{9}, 112),
			slices.Repeat([]int{7}, 24),
			slices.Repeat([]int{8}, 8),
		)),
		codeOf(slices.Repeat([]int{5}, 32)),
	}
}

// bestCodes is the codes for a block of such pieces.
func bestCodes(all []piece) codes {
	literals, distances := make([]int, mostLiterals), make([]int, mostDistances)
	for _, x := range all {
		literals[x.literal().number]++
		if x.isRun() {
			distances[x.distance().number]++
		}
	}
	literals[blockEnd]++
	if len(all) == 0 {
		literals[0]++ // which doesn't come: but a code of one symbol isn't full
	}
	return codes{bestCode(literals, api.MaxBits), bestCode(distances, api.MaxBits)}
}
