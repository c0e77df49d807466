package huff

import (
	"cmp"
	"slices"

	"drayage/api"
)

const mostCount = 1 << 32

// batch is symbols, one as often as it is in it, and the sum of their counts.
type batch struct {
	count   int
	symbols []int
}

// Lengths is lengths of a code for symbols that come so often.
func Lengths(counts []int, most int) ([]int, api.Errno) {
	if most < 1 || most > api.MaxBits {
		return nil, api.ErrArg
	}
	if len(counts) > api.MaxSyms {
		return nil, api.ErrLarge
	}
	var singles []batch
	for symbol, count := range counts {
		if count < 0 || count > mostCount {
			return nil, api.ErrArg
		}
		if count > 0 {
			singles = append(singles, batch{count, []int{symbol}})
		}
	}
	if len(singles) > 1<<most {
		return nil, api.ErrLarge
	}
	lens := make([]int, len(counts))
	for _, b := range cheapest(singles, most) {
		for _, symbol := range b.symbols {
			lens[symbol]++
		}
	}
	return lens, api.OK
}

// cheapest is batches in which each symbol is as often as its row has bits, so that rows written as often as their symbols come have the fewest bits in all.
//
// (Larmore and Hirschberg call it merging packages.) A symbol with a lesser count is ahead of one with a greater count in each round: the first batches never have it less often.
func cheapest(singles []batch, most int) []batch {
	if len(singles) < 2 {
		return singles
	}
	slices.SortStableFunc(singles, byCount)
	batches := singles
	for range most - 1 {
		batches = slices.Concat(singles, pairs(batches))
		slices.SortStableFunc(batches, byCount)
	}
	// A row's first bit is worth a half, its second one a quarter, and so on, and each batch here a half: lengths are full if all bits are worth one less than there are rows.
	return batches[:2*len(singles)-2]
}

func byCount(a, b batch) int {
	return cmp.Compare(a.count, b.count)
}

// pairs is each two batches put together; one that is left over is left out.
func pairs(batches []batch) []batch {
	var all []batch
	for i := 1; i < len(batches); i += 2 {
		a, b := batches[i-1], batches[i]
		all = append(all, batch{a.count + b.count, slices.Concat(a.symbols, b.symbols)})
	}
	return all
}
