package huff_test

import (
	"container/heap"
	"math"
	"math/rand/v2"
	"slices"
	"sort"
	"testing"

	"drayage/api"
	"drayage/huff"
)

// P3.5
func TestLengthsRefuses(t *testing.T) {
	many := slices.Repeat([]int{1}, api.MaxSyms+1)
	for _, c := range []struct {
		counts []int
		most   int
		e      api.Errno
	}{
		{[]int{1, 2}, 0, api.ErrArg},
		{[]int{1, 2}, -1, api.ErrArg},
		{[]int{1, 2}, 16, api.ErrArg},
		{[]int{1, 2}, 63, api.ErrArg},
		{[]int{1, 2}, 64, api.ErrArg},
		{[]int{1, 2}, math.MinInt, api.ErrArg},
		{[]int{1, 2}, math.MaxInt, api.ErrArg},
		{nil, 0, api.ErrArg},
		{many, 15, api.ErrLarge},
		{make([]int, 99999), 15, api.ErrLarge},
		{[]int{-1}, 4, api.ErrArg},
		{[]int{5, 6, 7, -1}, 4, api.ErrArg},
		{[]int{math.MinInt, 1}, 4, api.ErrArg},
		{[]int{1<<32 + 1, 1}, 4, api.ErrArg},
		{[]int{1, math.MaxInt}, 15, api.ErrArg},
		{[]int{1, 1, 1}, 1, api.ErrLarge},
		{many[:5], 2, api.ErrLarge},
		{many[:257], 8, api.ErrLarge},
		{append(make([]int, 63), many[:257]...), 8, api.ErrLarge},
		// More than one holds: the errors have an order.
		{many, 0, api.ErrArg},
		{many, 16, api.ErrArg},
		{slices.Repeat([]int{-1}, api.MaxSyms+1), 15, api.ErrLarge},
		{[]int{1, 1, 1, -1}, 1, api.ErrArg},
		{[]int{-1, 1, 1, 1}, 1, api.ErrArg},
	} {
		if lens, e := huff.Lengths(c.counts, c.most); len(lens) != 0 || e != c.e {
			t.Errorf("Lengths(%v, %d): %v %d, not %d", c.counts, c.most, lens, e, c.e)
		}
	}
}

// withCount is how many symbols have a count.
func withCount(counts []int) int {
	n := 0
	for _, count := range counts {
		if count > 0 {
			n++
		}
	}
	return n
}

// checkLengths holds what Lengths answers against all that P3.5 says.
func checkLengths(t *testing.T, counts []int, most int) []int {
	lens, e := huff.Lengths(counts, most)
	if e != api.OK || len(lens) != len(counts) {
		t.Fatalf("Lengths(%v, %d): %v %d", counts, most, lens, e)
	}
	bySize := make([]int, len(counts))
	for symbol, count := range counts {
		bySize[symbol] = symbol
		if n := lens[symbol]; n < 0 || n > most || (n > 0) != (count > 0) {
			t.Fatalf("Lengths(%v, %d): %v", counts, most, lens)
		}
	}
	switch used := withCount(counts); {
	case used == 1 && slices.Max(lens) != 1:
		t.Errorf("Lengths(%v, %d): %v, not 1", counts, most, lens)
	case used > 1 && !huff.Full(lens):
		t.Errorf("Lengths(%v, %d): %v isn't full", counts, most, lens)
	}
	sort.SliceStable(bySize, func(i, k int) bool { return counts[bySize[i]] < counts[bySize[k]] })
	least := math.MaxInt
	for i, symbol := range bySize {
		if counts[symbol] == 0 {
			continue
		}
		// Those that have the same count may have any two lengths.
		if i > 0 && counts[symbol] > counts[bySize[i-1]] {
			for _, lesser := range bySize[:i] {
				if counts[lesser] > 0 {
					least = min(least, lens[lesser])
				}
			}
		}
		if lens[symbol] > least {
			t.Errorf("Lengths(%v, %d): %v, symbol %d has too great a one", counts, most, lens, symbol)
		}
	}
	return lens
}

// someCounts is counts of many kinds.
func someCounts() [][]int {
	all := [][]int{
		nil,
		{0},
		{7},
		{0, 7},
		{1 << 32},
		{0, 0, 1 << 32, 0},
		{1 << 32, 1 << 32},
		{1, 1 << 32},
		{5, 0, 1, 1, 9},
		make([]int, api.MaxSyms),
		slices.Repeat([]int{1}, api.MaxSyms),
		slices.Repeat([]int{1 << 32}, api.MaxSyms),
		append(make([]int, api.MaxSyms-1), 3),
		append(make([]int, api.MaxSyms-2), 3, 1),
	}
	// With these a code without a bound would be as deep as there are symbols.
	var twice, sums []int
	a, b := 1, 1
	for i := range 33 {
		twice = append(twice, 1<<i)
		sums = append(sums, a)
		a, b = b, a+b
	}
	all = append(all, twice, sums, slices.Concat(twice, sums, twice))
	for used := 1; used <= api.MaxSyms; used++ {
		all = append(all, slices.Repeat([]int{used}, used))
	}
	random := rand.New(rand.NewPCG(9, 10))
	for range 300 {
		counts := make([]int, random.IntN(api.MaxSyms+1))
		for i := range counts {
			if random.IntN(4) > 0 {
				counts[i] = random.IntN(1<<random.IntN(33) + 1)
			}
		}
		all = append(all, counts)
	}
	return all
}

// P3.5: counts of many kinds, with each greatest length that they leave.
func TestLengths(t *testing.T) {
	for _, counts := range someCounts() {
		for most := 1; most <= api.MaxBits; most++ {
			if withCount(counts) <= 1<<most {
				checkLengths(t, counts, most)
			} else if lens, e := huff.Lengths(counts, most); len(lens) != 0 || e != api.ErrLarge {
				t.Errorf("Lengths(%v, %d): %v %d", counts, most, lens, e)
			}
		}
	}
}

// P3.5: as many symbols as there are rows have all the same length.
func TestLengthsOfAllRows(t *testing.T) {
	for most := 1; most <= 8; most++ {
		counts := make([]int, 1<<most)
		for i := range counts {
			counts[i] = 1 + i*i*i
		}
		if lens := checkLengths(t, counts, most); slices.Min(lens) != most {
			t.Errorf("Lengths(%v, %d): %v", counts, most, lens)
		}
	}
}

// ints is a heap of numbers.
type ints []int

func (h ints) Len() int           { return len(h) }
func (h ints) Less(i, k int) bool { return h[i] < h[k] }
func (h ints) Swap(i, k int)      { h[i], h[k] = h[k], h[i] }
func (h *ints) Push(x any)        { *h = append(*h, x.(int)) }
func (h *ints) Pop() any {
	last := (*h)[len(*h)-1]
	*h = (*h)[:len(*h)-1]
	return last
}

// fewestBits is how many bits the best code without a bound takes, for two or more symbols.
func fewestBits(counts []int) int {
	h := &ints{}
	for _, count := range counts {
		if count > 0 {
			heap.Push(h, count)
		}
	}
	bits := 0
	for h.Len() > 1 {
		both := heap.Pop(h).(int) + heap.Pop(h).(int)
		bits += both
		heap.Push(h, both)
	}
	return bits
}

// bitsTaken is how many bits symbols take that come so often.
func bitsTaken(counts, lens []int) int {
	bits := 0
	for symbol, count := range counts {
		bits += count * lens[symbol]
	}
	return bits
}

// The chapter leaves free which lengths these are, but what is packed is short by them alone: they are the best ones.
func TestLengthsAreTheBest(t *testing.T) {
	for _, counts := range someCounts() {
		if withCount(counts) < 2 || slices.Max(counts) > 1<<20 {
			continue
		}
		lens := checkLengths(t, counts, api.MaxBits)
		bits, fewest := bitsTaken(counts, lens), fewestBits(counts)
		if bits < fewest || bits > fewest && slices.Max(lens) < api.MaxBits {
			t.Errorf("Lengths(%v): %v: %d bits, not %d", counts, lens, bits, fewest)
		}
	}
	// With a bound that counts: held against all lengths that are full.
	for _, counts := range [][]int{{1, 2, 4, 8}, {1, 1, 1, 9}, {1, 1, 2, 3, 5}, {9, 1, 30, 2, 4}, {1, 2, 3, 4, 5}} {
		for most := 2; most <= 4; most++ {
			fewest := math.MaxInt
			for _, lens := range allLengths(len(counts), most) {
				if len(lens) == len(counts) && slices.Min(lens) > 0 && huff.Full(lens) {
					fewest = min(fewest, bitsTaken(counts, lens))
				}
			}
			if len(counts) > 1<<most {
				continue
			}
			if lens := checkLengths(t, counts, most); bitsTaken(counts, lens) != fewest {
				t.Errorf("Lengths(%v, %d): %v: %d bits, not %d", counts, most, lens, bitsTaken(counts, lens), fewest)
			}
		}
	}
}
