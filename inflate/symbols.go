package inflate

import (
	"drayage/api"
	"drayage/huff"
)

const (
	blockEnd      = 256 // the symbol behind those that are bytes, and ahead of those that are lengths
	mostLength    = 258
	mostLengths   = 29 // how many symbols say a length
	mostDistances = 30 // how many symbols say a distance
)

// symbols unpacks a block's symbols, up to its end.
func (u *unpacker) symbols(c *codes) api.Errno {
	for {
		symbol, e := c.literals.Next(u.bits)
		switch {
		case e != api.OK:
			return e
		case symbol < blockEnd:
			e = u.literal(byte(symbol))
		case symbol == blockEnd:
			return api.OK
		default:
			e = u.run(symbol-blockEnd-1, c.distances)
		}
		if e != api.OK {
			return e
		}
	}
}

// literal puts down a byte.
func (u *unpacker) literal(b byte) api.Errno {
	if u.room() < 1 {
		return api.ErrLarge
	}
	u.out = append(u.out, b)
	return api.OK
}

// run copies bytes, as many as the symbol says, numbered from the first one that says a length.
func (u *unpacker) run(symbol int, distances *huff.Tree) api.Errno {
	length, e := u.length(symbol)
	if e != api.OK {
		return e
	}
	symbol, e = distances.Next(u.bits)
	if e != api.OK {
		return e
	}
	back, e := u.distance(symbol)
	if e != api.OK {
		return e
	}
	if back > len(u.out) {
		return api.ErrForm
	}
	if length > u.room() {
		return api.ErrLarge
	}
	// One by one, as what is copied may be among what comes.
	for range length {
		u.out = append(u.out, u.out[len(u.out)-back])
	}
	return api.OK
}

// length is how many bytes a symbol, and the bits behind it, say.
func (u *unpacker) length(symbol int) (int, api.Errno) {
	switch {
	case symbol >= mostLengths:
		return 0, api.ErrForm
	case symbol == mostLengths-1:
		return mostLength, api.OK
	case symbol < 8:
		return 3 + symbol, api.OK
	}
	k := symbol/4 - 1
	return u.plus(3+(4+symbol%4)<<k, k)
}

// distance is from how far back a symbol, and the bits behind it, say to copy.
func (u *unpacker) distance(symbol int) (int, api.Errno) {
	switch {
	case symbol >= mostDistances:
		return 0, api.ErrForm
	case symbol < 4:
		return 1 + symbol, api.OK
	}
	k := symbol/2 - 1
	return u.plus(1+(2+symbol%2)<<k, k)
}

// plus is a number, and the next one of so many bits added to it.
func (u *unpacker) plus(v, bits int) (int, api.Errno) {
	more, ok := u.bits.Take(bits)
	if !ok {
		return 0, api.ErrShort
	}
	return v + more, api.OK
}
