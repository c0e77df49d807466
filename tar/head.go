package tar

import (
	"cmp"
	"strings"

	"drayage/api"
	"drayage/codec"
)

// What stands in the field of the magic.
const (
	ustarMagic = "ustar\x0000"
	gnuMagic   = "ustar  \x00"
)

// The sizes of a head's fields.
const (
	textSize   = 100 // a name, a link
	idSize     = 8   // a mode, a number of an owner, the two more numbers
	countSize  = 12  // a size, a time
	sumSize    = 8
	typeSize   = 1
	magicSize  = 8
	ownerSize  = 32
	prefixSize = 155
	restSize   = 12
	sumPlace   = textSize + 3*idSize + 2*countSize
	sumDigits  = sumSize - 1 // with the byte 00 behind them
)

// blanks are what the bytes of the sum are taken as.
const blanks = "        "

// head is what a head tells.
type head struct {
	name                        string
	mode, uid, gid, size, mtime int
	kind, link, magic           string
	owner, group, prefix        string
}

// block is a head as it stands in an archive. Of a text that has no room in its field the beginning stands there.
func (h head) block() []byte {
	b := make([]byte, 0, blockSize)
	put := func(text string, size int) {
		field := make([]byte, size)
		copy(field, text)
		b = append(b, field...)
	}
	number := func(n, size int) {
		// What an entry may have fits.
		digits, _ := codec.Octal(n, size)
		put(digits, size)
	}
	put(h.name, textSize)
	number(h.mode, idSize)
	number(h.uid, idSize)
	number(h.gid, idSize)
	number(h.size, countSize)
	number(h.mtime, countSize)
	put("", sumSize)
	put(h.kind, typeSize)
	put(h.link, textSize)
	put(h.magic, magicSize)
	put(h.owner, ownerSize)
	put(h.group, ownerSize)
	number(0, idSize)
	number(0, idSize)
	put(h.prefix, prefixSize)
	put("", restSize)
	digits, _ := codec.Octal(sumOf(b), sumDigits)
	copy(b[sumPlace:], digits+" ")
	return b
}

// sumOf is the sum of a head's bytes.
func sumOf(block []byte) int {
	var b [blockSize]byte
	copy(b[:], block)
	copy(b[sumPlace:], blanks)
	sum := 0
	for _, c := range b {
		sum += int(c)
	}
	return sum
}

// headOf is the head that stands in a block.
func headOf(block []byte) (head, api.Errno) {
	rest := string(block)
	field := func(size int) string {
		s := rest[:size]
		rest = rest[size:]
		return s
	}
	text := func(size int) string {
		s, _, _ := strings.Cut(field(size), textEnd)
		return s
	}
	noNumber := api.OK
	number := func(size int) int {
		n, code := codec.Unoctal(field(size))
		noNumber = cmp.Or(noNumber, code)
		return n
	}
	var h head
	h.name = text(textSize)
	h.mode = number(idSize)
	h.uid = number(idSize)
	h.gid = number(idSize)
	h.size = number(countSize)
	h.mtime = number(countSize)
	sum, noSum := codec.Unoctal(field(sumSize))
	h.kind = field(typeSize)
	h.link = text(textSize)
	h.magic = field(magicSize)
	h.owner = text(ownerSize)
	h.group = text(ownerSize)
	field(2 * idSize)
	h.prefix = text(prefixSize)
	switch {
	case noSum != api.OK || sum != sumOf(block):
		return head{}, api.ErrSum
	case h.magic != ustarMagic && h.magic != gnuMagic:
		return head{}, api.ErrForm
	case noNumber != api.OK:
		return head{}, noNumber
	}
	return h.withType()
}

// withType is a head whose type has one text alone, if it is a type.
func (h head) withType() (head, api.Errno) {
	switch h.kind {
	case oldRegType:
		h.kind = regType
	case regType, hardType, linkType, dirType, nameType, targetType, recordsType:
	default:
		return head{}, api.ErrKind
	}
	return h, api.OK
}

// fullName is the name that a head tells by its own fields.
func (h head) fullName() string {
	if h.prefix == "" || h.magic != ustarMagic {
		return h.name
	}
	return h.prefix + "/" + h.name
}
