package deflate

import "slices"

// tellers is the symbols of the code by which lengths are told, in the order in which their own lengths stand.
var tellers = [19]int{16, 17, 18, 0, 8, 7, 9, 6, 10, 5, 11, 4, 12, 3, 13, 2, 14, 1, 15}

// The tellers by which more than one length is told, how many at least and at most, and the bits that say how many.
const (
	lastAgain, leastAgain, mostAgain, againBits = 16, 3, 6, 2
	fewNoughts, leastFew, mostFew, fewBits      = 17, 3, 10, 3
	manyNoughts, leastMany, mostMany, manyBits  = 18, 11, 138, 7
)

// How many lengths are told at least, and the bits that say how many more.
const (
	leastLiterals, literalBits   = blockEnd + 1, 5
	leastDistances, distanceBits = 1, 5
	leastTellers, tellerBits     = 4, 4
)

// Of a teller, how long its row may be, and the bits that say it.
const mostTellerRow, tellerRowBits = 7, 3

// tell puts down the lengths of codes, and ahead of them those of the code by which they are told.
func (p packer) tell(c codes) {
	literals, distances := cut(c.literals.lens, leastLiterals), cut(c.distances.lens, leastDistances)
	tells := tellsOf(slices.Concat(literals, distances))
	teller := bestTeller(tells)
	var lens []int
	for _, number := range tellers {
		lens = append(lens, teller.lens[number])
	}
	lens = cut(lens, leastTellers)
	p.bits.Put(len(literals)-leastLiterals, literalBits)
	p.bits.Put(len(distances)-leastDistances, distanceBits)
	p.bits.Put(len(lens)-leastTellers, tellerBits)
	for _, n := range lens {
		p.bits.Put(n, tellerRowBits)
	}
	for _, s := range tells {
		p.symbol(teller, s)
	}
}

// cut is lengths without the noughts at their end, but so many at least.
func cut(lens []int, least int) []int {
	n := len(lens)
	for n > least && lens[n-1] == 0 {
		n--
	}
	return lens[:n]
}

// bestTeller is the code for tellers. There are two of them at least, so it is full: some symbol of a full code has a length above 0, and no number of literals that may be told has a full code in which each has the same.
func bestTeller(tells []symbol) code {
	counts := make([]int, len(tellers))
	for _, s := range tells {
		counts[s.number]++
	}
	return bestCode(counts, mostTellerRow)
}

// tellsOf is the tellers that tell lengths.
func tellsOf(lens []int) []symbol {
	var all []symbol
	for at := 0; at < len(lens); {
		s, n := tellAt(lens, at)
		all = append(all, s)
		at += n
	}
	return all
}

// tellAt is the teller that tells the most of the lengths from a place on, and how many these are.
func tellAt(lens []int, at int) (symbol, int) {
	n := 1
	for at+n < len(lens) && lens[at+n] == lens[at] {
		n++
	}
	switch {
	case lens[at] == 0 && n >= leastMany:
		n = min(n, mostMany)
		return symbol{manyNoughts, n - leastMany, manyBits}, n
	case lens[at] == 0 && n >= leastFew:
		n = min(n, mostFew)
		return symbol{fewNoughts, n - leastFew, fewBits}, n
	case at > 0 && lens[at] == lens[at-1] && n >= leastAgain:
		n = min(n, mostAgain)
		return symbol{lastAgain, n - leastAgain, againBits}, n
	}
	return symbol{number: lens[at]}, 1
}
