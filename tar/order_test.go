package tar_test

import (
	"strings"
	"testing"

	"drayage/api"
)

// flaw is something that is wrong with a head; flaws are in the order in which they are looked for.
type flaw struct {
	what string
	code api.Errno
	put  func(*raw)
}

// flaws is what may be wrong with the head of an entry of any type, the first looked for first.
func flaws() []flaw {
	return []flaw{
		{"no sum", api.ErrSum, func(m *raw) { m.sum = "x" }},
		{"no magic", api.ErrForm, func(m *raw) { m.magic = "" }},
		{"no mode", api.ErrForm, func(m *raw) { m.mode = "x" }},
		{"no owner", api.ErrForm, func(m *raw) { m.uid = "x" }},
		{"no group", api.ErrForm, func(m *raw) { m.gid = "x" }},
		{"no size", api.ErrForm, func(m *raw) { m.size = "x" }},
		{"no time", api.ErrForm, func(m *raw) { m.mtime = "x" }},
		{"no type", api.ErrKind, func(m *raw) { m.kind = "3" }},
		{"a size, or too large a one", api.ErrShort, func(m *raw) { m.size = "77777777777" }},
	}
}

// wrongs is what CheckAll says of an entry that the head tells, the first looked for first.
func wrongs() []flaw {
	return []flaw{
		{"no path", api.ErrName, func(m *raw) { m.name = "/" }},
		{"a large mode", api.ErrArg, func(m *raw) { m.mode = "10000" }},
		{"no owner's name", api.ErrName, func(m *raw) { m.owner = ":" }},
	}
}

// P9.2: of each two things that are wrong with a head, the one that is named first; CheckAll at last.
func TestReadOrder(t *testing.T) {
	all := append(flaws(), wrongs()...)
	for _, kind := range []string{"0", "\x00", "1", "2", "5", "L", "K", "x"} {
		for i, first := range all {
			code := first.code
			if code == api.ErrShort && strings.Contains("125", kind) {
				code = api.ErrForm // it mustn't have a size
			}
			if i >= len(flaws()) && strings.Contains("LKx1", kind) {
				continue // what the fields tell says nothing, or there is no file
			}
			for _, second := range all[i:] {
				m := rawOf(kind, "a", "")
				if kind == "2" {
					m.link = "l"
				}
				second.put(&m)
				first.put(&m)
				checkFault(t, first.what+", "+second.what, pieces(rawOf("5", "ahead", ""), m), 512, code)
			}
		}
	}
}

// P9.2: of a head that has come already: what is wrong with its fields goes ahead of that, what is wrong with its bytes comes behind.
func TestReadOrderOfHeadsAhead(t *testing.T) {
	for _, kind := range []string{"L", "K", "x"} {
		first := rawOf(kind, "", "9 path=p\n")
		if kind != "x" {
			first = rawOf(kind, "", "text\x00")
		}
		for _, f := range flaws() {
			m := first
			f.put(&m)
			code := f.code
			if code == api.ErrShort {
				code = api.ErrForm
			}
			checkFault(t, f.what, pieces(first, m), 1024, code)
		}
		bad := rawOf(kind, "", "no end and no record")
		checkFault(t, "bytes", archiveOf(bad, plain()), 0, api.ErrForm)
		checkFault(t, "bytes", pieces(bad), 0, api.ErrForm)
		bad.size = "1001"
		checkFault(t, "too few, and wrong ones", pieces(bad), 0, api.ErrShort)
		checkFault(t, "too few, and wrong ones, again", pieces(first, bad), 1024, api.ErrForm)
	}
	bad := records(rec("key", "value"))
	checkFault(t, "a key", pieces(bad), 0, api.ErrKind)
	checkFault(t, "a key, behind records", pieces(records(), bad), 512, api.ErrForm)
	bad.size = "1001"
	checkFault(t, "too few, and a key", pieces(bad), 0, api.ErrShort)
}

// P9.2: the first head at which something is wrong, whatever is wrong behind it.
func TestReadFirstFault(t *testing.T) {
	all := append(flaws(), wrongs()...)
	for _, f := range all {
		for _, g := range all {
			m, n := rawOf("0", "a", "x"), rawOf("0", "b", "y")
			f.put(&m)
			g.put(&n)
			checkFault(t, f.what+", then "+g.what, archiveOf(rawOf("5", "ahead", ""), m, n), 512, f.code)
		}
		m := rawOf("0", "a", "x")
		f.put(&m)
		for _, behind := range []string{"", empty, strings.Repeat("\xff", 512), nameOf("n").text(), pieces(nameOf("n"), nameOf("n"))} {
			checkFault(t, f.what+", then no end", pieces(rawOf("5", "ahead", ""), m)+behind, 512, f.code)
		}
	}
}

// P9.2: bytes 00 alone are no head, whatever is ahead; a block with one other byte is.
func TestReadBlocksOfNoughts(t *testing.T) {
	for at := range 512 {
		b := empty[:at] + "\x01" + empty[at+1:]
		checkFault(t, "one byte", b+end, 0, api.ErrSum)
		checkFault(t, "one byte, behind a directory", rawOf("5", "d", "").text()+b+end, 512, api.ErrSum)
		checkFault(t, "one byte in the second one", empty+b+end, 0, api.ErrForm)
		checkFault(t, "one byte alone", b, 0, api.ErrSum)
	}
}
