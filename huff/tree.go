package huff

import "drayage/api"

// Tree reads symbols of a code.
type Tree struct {
	first   [api.MaxBits + 1]int   // by lengths, the first row
	symbols [api.MaxBits + 1][]int // by lengths, the symbols in the order of their rows
	taken   int                    // rows of the greatest length that begin with a symbol's row
}

// NewTree is a code's tree.
func NewTree(lens []int) (*Tree, api.Errno) {
	if e := Check(lens); e != api.OK {
		return nil, e
	}
	t := &Tree{first: firstRows(lens), taken: taken(lens)}
	for symbol, n := range lens {
		if n > 0 {
			t.symbols[n] = append(t.symbols[n], symbol)
		}
	}
	return t, api.OK
}

// Next reads a symbol.
func (t *Tree) Next(r *Reader) (int, api.Errno) {
	row := 0
	for i := range api.MaxBits {
		if r.left() == 0 {
			return 0, api.ErrShort
		}
		row = row<<1 | r.bit()
		n := i + 1
		if !t.begins(row, n) {
			break
		}
		// What is below the first row of its length begins with a shorter row, whose symbol was answered.
		if at := row - t.first[n]; at < len(t.symbols[n]) {
			return t.symbols[n][at], api.OK
		}
	}
	return 0, api.ErrForm
}

// begins tells if so many bits are the beginning of a symbol's row, a whole one, or begin with one.
func (t *Tree) begins(row, n int) bool {
	// Filled up by noughts, the rows stand without a gap from nought on.
	return row<<(api.MaxBits-n) < t.taken
}
