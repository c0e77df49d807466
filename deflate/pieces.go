package deflate

import "math/bits"

const (
	blockEnd      = 256 // the symbol behind those that are bytes, and ahead of those that are lengths
	mostLiterals  = 286 // how many symbols are bytes, lengths, or the end
	mostDistances = 30
)

// piece is a byte, or a run of bytes that stood ahead of it already.
type piece struct {
	value uint16 // the byte, or how many they are
	back  uint16 // how far back they stand; 0 of a byte
}

// piecesOf is the pieces that bytes are put together from.
func piecesOf(b []byte) []piece {
	var all []piece
	at := 0
	bytesUpTo := func(end int) {
		for _, c := range b[at:end] {
			all = append(all, piece{value: uint16(c)})
		}
	}
	eachRun(b, func(from, length, back int) {
		bytesUpTo(from)
		all = append(all, piece{uint16(length), uint16(back)})
		at = from + length
	})
	bytesUpTo(len(b))
	return all
}

func (x piece) isRun() bool {
	return x.back > 0
}

// symbol is a symbol of a code, and a number of so many bits behind it: the lowest ones of more.
type symbol struct {
	number     int
	more, bits int
}

// literal is the symbol that says the byte, or how many there are.
func (x piece) literal() symbol {
	if !x.isRun() {
		return symbol{number: int(x.value)}
	}
	if x.value == mostRun {
		return symbol{number: mostLiterals - 1}
	}
	s := symbolOf(int(x.value)-leastRun, 2)
	s.number += blockEnd + 1
	return s
}

// distance is the symbol that says how far back a run's bytes stand.
func (x piece) distance() symbol {
	return symbolOf(int(x.back)-1, 1)
}

// symbolOf is the symbol that says how many bits a number has, and of those behind its first one the highest, up to so many.
func symbolOf(v, highest int) symbol {
	lowest := max(0, bits.Len(uint(v))-1-highest)
	return symbol{lowest<<highest + v>>lowest, v, lowest}
}
