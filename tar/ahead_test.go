package tar_test

import (
	"math/rand/v2"
	"strconv"
	"strings"
	"testing"

	"drayage/api"
)

// nameOf and linkOf are heads with a name, or a link, of the next entry.
func nameOf(text string) raw { return rawOf("L", "././@LongLink", text+"\x00") }
func linkOf(text string) raw { return rawOf("K", "././@LongLink", text+"\x00") }

// plain is a link's head, as which all fields can be told.
func plain() raw {
	m := rawOf("2", "own", "")
	m.link, m.owner, m.group, m.uid, m.gid, m.mtime = "ownlink", "ownowner", "owngroup", octal(1, 7), octal(2, 7), octal(3, 11)
	return m
}

// plainEntry is what plain tells.
func plainEntry() api.Entry {
	return api.Entry{Path: "own", Kind: api.Link, Link: "ownlink", Owner: "ownowner", Group: "owngroup", Uid: 1, Gid: 2, Mtime: 3}
}

// P9.2: names and links that stand ahead, of each type, instead of the head's.
func TestReadLong(t *testing.T) {
	l200 := strings.Repeat("l", 200)
	for _, magic := range []string{ustar, gnu} {
		for _, kind := range []string{"0", "\x00", "2", "5"} {
			m := rawOf(kind, "own/", "")
			m.magic, m.prefix, m.link = magic, "prefix/", "ownlink"
			for _, s := range []string{"n", "a/b", l200, "\n", "own"} {
				x := api.Entry{Path: s, Kind: kindOf(kind)}
				if x.Kind == api.Link {
					x.Link = "ownlink"
				}
				checkRead(t, archiveOf(nameOf(s), m), x)
				if x.Kind == api.Dir {
					checkRead(t, archiveOf(nameOf(s+"/"), m), x)
					checkFault(t, "two /", archiveOf(nameOf(s+"//"), m), 1024, api.ErrName)
				} else {
					checkFault(t, "a / of no directory", archiveOf(nameOf(s+"/"), m), 1024, api.ErrName)
				}
				if x.Kind == api.Link {
					x.Link = "/" + s[1:]
				}
				checkRead(t, archiveOf(nameOf(s), linkOf("/"+s[1:]), m), x)
				checkRead(t, archiveOf(linkOf("/"+s[1:]), nameOf(s), m), x)
			}
			checkFault(t, "201 bytes", archiveOf(nameOf(l200+"n"), m), 1024, api.ErrName)
			checkFault(t, "no name", archiveOf(nameOf(""), m), 1024, api.ErrName)
			checkFault(t, "no name", archiveOf(nameOf("/"), m), 1024, api.ErrName)
		}
	}
	// A K says nothing of files and directories, whatever it is.
	for _, s := range []string{"", "\n", l200 + l200} {
		checkRead(t, archiveOf(linkOf(s), rawOf("0", "a", "x")), api.Entry{Path: "a", Kind: api.Reg, Data: []byte("x")})
		checkRead(t, archiveOf(linkOf(s), rawOf("5", "a", "")), api.Entry{Path: "a", Kind: api.Dir})
		checkFault(t, "no link", archiveOf(linkOf(s), plain()), 1024, api.ErrName)
	}
	hard := rawOf("1", "h", "")
	checkRead(t, archiveOf(rawOf("0", "f", ""), linkOf("f"), hard), api.Entry{Path: "f", Kind: api.Reg}, api.Entry{Path: "h", Kind: api.Hard, Link: "f"})
	checkFault(t, "no such file", archiveOf(rawOf("0", "f", ""), linkOf("g"), hard), 1536, api.ErrOrder)
}

// P9.2: the text goes up to the first byte 00, which stands among the bytes.
func TestReadLongEnds(t *testing.T) {
	for kind, x := range map[string]api.Entry{"L": {Path: "text", Link: "ownlink"}, "K": {Path: "own", Link: "text"}} {
		x.Kind, x.Owner, x.Group, x.Uid, x.Gid, x.Mtime = api.Link, "ownowner", "owngroup", 1, 2, 3
		for _, s := range []string{"text\x00", "text\x00\x00\x00", "text\x00more", "text\x00/\n\xff", "text\x00" + strings.Repeat("more", 300)} {
			m := rawOf(kind, "any name", s)
			m.link, m.owner, m.prefix, m.mode = "says nothing", strings.Repeat("o", 32), "nothing", "77777777"
			checkRead(t, archiveOf(m, plain()), x)
		}
		for _, s := range []string{"", "text", "t", strings.Repeat("t", 511), strings.Repeat("t", 512), strings.Repeat("t", 513)} {
			m := rawOf(kind, "", s)
			checkFault(t, "no byte 00", archiveOf(m, plain()), 0, api.ErrForm)
			checkFault(t, "no byte 00, behind another one", archiveOf(rawOf("5", "d", ""), m, plain()), 512, api.ErrForm)
			text := m.text()
			for cut := 512; cut < len(text); cut++ {
				checkFault(t, "cut", text[:cut], 0, api.ErrShort)
			}
		}
	}
}

// P9.2: each record, alone, and what it tells.
func TestReadRecords(t *testing.T) {
	for key, told := range map[string]func(*api.Entry, string){
		"path":     func(x *api.Entry, s string) { x.Path = s },
		"linkpath": func(x *api.Entry, s string) { x.Link = s },
		"uname":    func(x *api.Entry, s string) { x.Owner = s },
		"gname":    func(x *api.Entry, s string) { x.Group = s },
		"comment":  func(*api.Entry, string) {},
	} {
		for _, s := range []string{"x", "a=b", " a ", "=", "a= 5 path=b"} {
			x := plainEntry()
			told(&x, s)
			checkRead(t, archiveOf(records(rec(key, s)), plain()), x)
			checkRead(t, archiveOf(records(rec(key, "another"), rec("comment", "x"), rec(key, s)), plain()), x)
		}
	}
	for key, most := range map[string]int{"uid": api.MaxId, "gid": api.MaxId, "mtime": api.MaxTime} {
		for _, n := range []int{0, 1, 7, 8, 9, 10, 1000, most} {
			x := plainEntry()
			*map[string]*int{"uid": &x.Uid, "gid": &x.Gid, "mtime": &x.Mtime}[key] = n
			checkRead(t, archiveOf(records(rec(key, strconv.Itoa(n))), plain()), x)
			checkRead(t, archiveOf(records(rec(key, "99999999999"), rec(key, strconv.Itoa(n))), plain()), x)
		}
		for _, s := range []string{strconv.Itoa(most + 1), "4611686018427387903"} {
			checkFault(t, "a large number", archiveOf(records(rec(key, s)), plain()), 1024, api.ErrArg)
		}
	}
	x := plainEntry()
	checkRead(t, archiveOf(rawOf("x", "", ""), plain()), x)
	checkRead(t, archiveOf(records(rec("size", "0")), plain()), x)
	checkRead(t, archiveOf(records(rec("comment", "")), plain()), x)
	x.Owner, x.Group = "", ""
	checkRead(t, archiveOf(records(rec("uname", ""), rec("gname", "")), plain()), x)
	x.Path, x.Link, x.Owner, x.Group, x.Uid, x.Gid, x.Mtime = "p", "l", "u", "g", 4, 5, 6
	all := records(rec("path", "p"), rec("linkpath", "l"), rec("uname", "u"), rec("gname", "g"), rec("uid", "4"), rec("gid", "5"), rec("mtime", "6"), rec("size", "0"), rec("comment", "c"))
	checkRead(t, archiveOf(all, plain()), x)
	all.name, all.link, all.owner, all.mode, all.prefix = "says nothing", "nothing", strings.Repeat("o", 32), "77777777", "nothing"
	checkRead(t, archiveOf(all, plain(), rawOf("5", "behind", "")), x, api.Entry{Path: "behind", Kind: api.Dir})
}

// P9.2: records with values that an entry mayn't have: CheckAll says so, at the entry's head.
func TestReadRecordsThatAreNotRight(t *testing.T) {
	for _, s := range []string{rec("path", ""), rec("path", "a/"), rec("path", "/a"), rec("path", "a\x00b"), rec("path", strings.Repeat("a", 201)), rec("linkpath", ""), rec("linkpath", "a\nb"), rec("linkpath", "a\x00"), rec("linkpath", strings.Repeat("a", 201)), rec("uname", "a:"), rec("uname", "a\nb"), rec("uname", "a\x00"), rec("gname", strings.Repeat("g", 32)), rec("gname", "\x00")} {
		checkFault(t, "a value", archiveOf(records(s), plain()), 1024, api.ErrName)
		checkFault(t, "a value that comes again", archiveOf(records(rec("path", "p"), rec("linkpath", "l"), rec("uname", ""), rec("gname", ""), s), plain()), 1024, api.ErrName)
	}
	// linkpath says nothing of files and directories.
	checkRead(t, archiveOf(records(rec("linkpath", "a\nb")), rawOf("5", "d", "")), api.Entry{Path: "d", Kind: api.Dir})
	checkRead(t, archiveOf(records(rec("linkpath", "")), rawOf("0", "d", "")), api.Entry{Path: "d", Kind: api.Reg})
	// A directory's path may have its / or not.
	checkRead(t, archiveOf(records(rec("path", "p/")), rawOf("5", "d", "")), api.Entry{Path: "p", Kind: api.Dir})
	checkRead(t, archiveOf(records(rec("path", "p")), rawOf("5", "d/", "")), api.Entry{Path: "p", Kind: api.Dir})
	checkFault(t, "two /", archiveOf(records(rec("path", "p//")), rawOf("5", "d/", "")), 1024, api.ErrName)
	// The prefix is the head's, too.
	m := rawOf("0", "own", "")
	m.prefix = "prefix"
	checkRead(t, archiveOf(records(rec("path", "p")), m), api.Entry{Path: "p", Kind: api.Reg})
	checkRead(t, archiveOf(records(rec("uname", "u")), m), api.Entry{Path: "prefix/own", Kind: api.Reg, Owner: "u"})
}

// P9.2: what is no record.
func TestReadNoRecords(t *testing.T) {
	for _, s := range []string{"x", "\n", " ", "=", "0", "7", "0 ", "1 ", "2 ", "3 ", "3 \n", "2\n", "1\n", "4 a\n", "3 =", "4 =\x00", "6 path\n", "8 path=p", "7 path=p\n", "8 path=p\n", "11 path=p\n", "99 path=p\n", "09 path=p\n", "+9 path=p\n", " 9 path=p\n", "9  path=p", "9path=p\n", "9\tpath=p\n", "path=p\n", "-1 path=p\n", "0x9 path=p\n", "9 path=p\r", "9 path=p\x00", "99999999999999999999 path=p\n", "4611686018427387903 path=p\n", "4611686018427387904 path=p\n", "9223372036854775807 path=p\n", "18446744073709551625 path=p\n", "\x00", "9\x00path=p\n", "12 comment:x\n"} {
		checkFault(t, "no record", archiveOf(records(s), plain()), 0, api.ErrForm)
		checkFault(t, "no record behind one", archiveOf(rawOf("5", "d", ""), records(rec("comment", "x"), s), plain()), 512, api.ErrForm)
		if want := checkReadModel(t, archiveOf(records(s), plain())); want != api.ErrForm {
			t.Errorf("%q: the model says %d", s, want)
		}
	}
	// Bytes behind the records, and what fills up a block, are none of them.
	m := records(rec("path", "p"), "9 uname=x\n")
	m.size = octal(len(rec("path", "p"))+3, 11)
	checkFault(t, "one that ends behind the bytes", archiveOf(m, plain()), 0, api.ErrForm)
	checkFault(t, "noughts", archiveOf(records(rec("path", "p"), "\x00"), plain()), 0, api.ErrForm)
	checkFault(t, "blanks", archiveOf(records(rec("path", "p"), " "), plain()), 0, api.ErrForm)
}

// P9.2: a record of each length, and those that two lengths fit.
func TestReadLengths(t *testing.T) {
	for n := range 1100 {
		text := strings.Repeat("c", n)
		s := " comment=" + text + "\n"
		fits := 0
		for _, size := range []int{len(s) - 1, len(s), len(s) + 1, len(s) + 2, len(s) + 3, len(s) + 4, len(s) + 5, n} {
			digits := strconv.Itoa(size)
			if len(digits)+len(s) == size {
				fits++
				checkRead(t, archiveOf(records(digits+s), plain()), plainEntry())
				checkRead(t, archiveOf(records(digits+s, rec("path", "own")), plain()), plainEntry())
			} else {
				checkFault(t, "another length", archiveOf(records(digits+s), plain()), 0, api.ErrForm)
			}
		}
		if want := 1 + map[int]int{87: 1, 986: 1}[n]; fits != want {
			t.Errorf("%d bytes: %d lengths", n, fits)
		}
	}
	x := plainEntry()
	x.Owner = ""
	checkRead(t, archiveOf(records("9 uname=\n"), plain()), x)
	checkRead(t, archiveOf(records("10 uname=\n"), plain()), x)
	x.Owner = strings.Repeat("o", 31)
	checkRead(t, archiveOf(records("41 uname="+x.Owner+"\n"), plain()), x)
	x.Owner = ""
	x.Path = strings.Repeat("p", 200)
	checkRead(t, archiveOf(records("9 uname=\n210 path="+x.Path+"\n"), plain()), x)
	// A value may hold what reads like the end of the record, and another one.
	x = plainEntry()
	x.Path = "p\n9 gid=99\n"
	checkRead(t, archiveOf(records(rec("path", x.Path)), plain()), x)
}

// P9.2: keys that are none.
func TestReadKeys(t *testing.T) {
	for _, key := range []string{"", " ", "x", "Path", "PATH", "path ", " path", "paths", "pat", "linkname", "atime", "ctime", "mode", "uids", "charset", "hdrcharset", "SCHILY.dev", "GNU.sparse.major", "path\x00", "path\n", "L", "K", "0", "comment ", "size\n", "\xff"} {
		checkFault(t, "no key", archiveOf(records(rec(key, "1")), plain()), 0, api.ErrKind)
		checkFault(t, "no key", archiveOf(records(rec("path", "p"), rec(key, "")), plain()), 0, api.ErrKind)
	}
	// Its own type doesn't stand for a head that came.
	checkFault(t, "x", archiveOf(records(rec("x", "")), plain()), 0, api.ErrKind)
}

// P9.2: values that are no numbers.
func TestReadNoNumbers(t *testing.T) {
	for _, key := range []string{"size", "uid", "gid", "mtime"} {
		for _, s := range []string{"", "00", "01", "-0", "-1", "+1", " 1", "1 ", "1.0", "1.5", "x", "0x1", "1\x00", "1\n", "1_0", "\xff", "1e3"} {
			checkFault(t, "no number", archiveOf(records(rec(key, s)), plain()), 0, api.ErrForm)
			checkFault(t, "no number, and one", archiveOf(records(rec(key, s), rec(key, "0")), plain()), 0, api.ErrForm)
		}
		for _, s := range []string{"4611686018427387904", "9223372036854775808", "18446744073709551616", strings.Repeat("9", 99)} {
			checkFault(t, "a large number", archiveOf(records(rec(key, s)), plain()), 0, api.ErrLarge)
			checkFault(t, "a large number, and a small one", archiveOf(records(rec(key, s), rec(key, "0")), plain()), 0, api.ErrLarge)
		}
	}
}

// P9.2: record by record: what is wrong with the first one that is wrong.
func TestReadRecordByRecord(t *testing.T) {
	wrong := []struct {
		s    string
		code api.Errno
	}{
		{"x", api.ErrForm},
		{"9 path=p\r", api.ErrForm},
		{rec("key", "value"), api.ErrKind},
		{rec("uid", "x"), api.ErrForm},
		{rec("gid", "4611686018427387904"), api.ErrLarge},
	}
	for _, first := range wrong {
		checkFault(t, "alone", archiveOf(records(first.s), plain()), 0, first.code)
		checkFault(t, "behind others", archiveOf(records(rec("path", "/"), rec("size", "99"), first.s), plain()), 0, first.code)
		for _, second := range wrong {
			if first.s != "x" {
				checkFault(t, "ahead of another one", archiveOf(records(first.s, second.s), plain()), 0, first.code)
			}
		}
	}
}

// P9.2: a record of the size goes ahead of the head's size, of what stands behind the entry's head.
func TestReadSizeRecord(t *testing.T) {
	file := rawOf("0", "f", "12345")
	x := api.Entry{Path: "f", Kind: api.Reg, Data: []byte("12345")}
	behind := api.Entry{Path: "d", Kind: api.Dir}
	for _, own := range []string{"", "0", "1", "5", "6", "1000", "77777777777", "777777777777"} {
		file.size = own
		checkRead(t, archiveOf(records(rec("size", "5")), file, rawOf("5", "d", "")), x, behind)
		checkRead(t, archiveOf(records(rec("size", "9"), rec("size", "5")), file, rawOf("5", "d", "")), x, behind)
		checkFault(t, "too large", archiveOf(records(rec("size", "1537")), file), 1024, api.ErrShort)
		checkFault(t, "too large", archiveOf(records(rec("size", "4611686018427387903")), file), 1024, api.ErrShort)
		checkFault(t, "noughts where the next head should stand", pieces(records(rec("size", "5")), file)+empty, 2048, api.ErrShort)
		checkFault(t, "bytes where the next head should stand", pieces(records(rec("size", "0")), file)+end, 1536, api.ErrSum)
	}
	file.size = "x"
	checkFault(t, "the head's must be a number all the same", archiveOf(records(rec("size", "5")), file), 1024, api.ErrForm)
	// Heads between the records and the entry's have sizes of their own.
	for _, size := range []string{"0", "1", "512", "600", "4611686018427387903"} {
		m := rawOf("0", "own", "")
		n, _ := strconv.Atoi(size)
		if n < 1000 {
			m = rawOf("0", "own", strings.Repeat("x", n))
			checkRead(t, archiveOf(records(rec("size", size)), nameOf("n"), linkOf("l"), m), api.Entry{Path: "n", Kind: api.Reg, Data: []byte(m.body)})
			checkRead(t, archiveOf(nameOf("n"), records(rec("size", size)), linkOf("l"), m), api.Entry{Path: "n", Kind: api.Reg, Data: []byte(m.body)})
		} else {
			checkFault(t, "too large", archiveOf(records(rec("size", size)), nameOf("n"), linkOf("l"), m), 3072, api.ErrShort)
		}
	}
	// Of types without bytes the size that holds is 0.
	for _, kind := range []string{"1", "2", "5"} {
		m := rawOf(kind, "a", "")
		m.link = "f"
		checkFault(t, "a size", archiveOf(rawOf("0", "f", ""), records(rec("size", "1")), m), 1536, api.ErrForm)
		m.size = "77777777777"
		l := []api.Entry{{Path: "f", Kind: api.Reg}, {Path: "a", Kind: kindOf(kind)}}
		if kind != "5" {
			l[1].Link = "f"
		}
		checkRead(t, archiveOf(rawOf("0", "f", ""), records(rec("size", "0")), m), l...)
		checkFault(t, "a size of the head's", archiveOf(rawOf("0", "f", ""), records(rec("uid", "0")), m), 1536, api.ErrForm)
	}
}

// P9.2: records go ahead of names and links that stand ahead, whichever comes first.
func TestReadWhichGoesAhead(t *testing.T) {
	name, link, both := nameOf("n"), linkOf("l"), records(rec("path", "rp"), rec("linkpath", "rl"))
	for _, all := range [][]raw{{name, link, both}, {name, both, link}, {both, name, link}, {both, link, name}, {link, name, both}, {link, both, name}} {
		x := plainEntry()
		x.Path, x.Link = "rp", "rl"
		checkRead(t, archiveOf(append(all, plain())...), x)
		for i := range all {
			if all[i].kind == "x" {
				all[i] = records(rec("path", "rp"))
			}
		}
		x.Link = "l"
		checkRead(t, archiveOf(append(all, plain())...), x)
		for i := range all {
			if all[i].kind == "x" {
				all[i] = records(rec("linkpath", "rl"))
			}
		}
		x.Path, x.Link = "n", "rl"
		checkRead(t, archiveOf(append(all, plain())...), x)
		for i := range all {
			if all[i].kind == "x" {
				all[i] = records()
			}
		}
		x.Path, x.Link = "n", "l"
		checkRead(t, archiveOf(append(all, plain())...), x)
		for i := range all {
			if all[i].kind == "x" {
				all[i] = records(rec("path", ""))
			}
		}
		checkFault(t, "an empty path goes ahead, too", archiveOf(append(all, plain())...), 3072, api.ErrName)
	}
}

// P9.2: each of the three comes once for an entry, and says nothing of the entries behind it.
func TestReadTwice(t *testing.T) {
	ahead := []raw{nameOf("n"), linkOf("l"), records(rec("uid", "1"))}
	for i, m := range ahead {
		checkFault(t, "twice", archiveOf(m, m, plain()), 1024, api.ErrForm)
		checkFault(t, "twice, cut", pieces(m)+m.head(), 1024, api.ErrForm)
		checkFault(t, "twice, without a byte 00", archiveOf(m, rawOf(m.kind, "", ""), plain()), 1024, api.ErrForm)
		for k, other := range ahead {
			if i != k {
				checkFault(t, "twice, with another one between", archiveOf(m, other, m, plain()), 2048, api.ErrForm)
				checkFault(t, "twice, behind another one", archiveOf(other, m, m, plain()), 2048, api.ErrForm)
			}
		}
		second := plain()
		second.name = "second"
		x, y := plainEntry(), plainEntry()
		y.Path = "second"
		switch m.kind {
		case "L":
			x.Path = "n"
		case "K":
			x.Link = "l"
		}
		checkRead(t, archiveOf(m, plain(), second), x, y)
		second.name = "third"
		third := api.Entry{Path: "third", Kind: api.Link, Link: y.Link, Owner: y.Owner, Group: y.Group, Uid: 1, Gid: 2, Mtime: 3}
		if m.kind == "K" {
			third.Link = "l"
		}
		if m.kind == "L" {
			m, third.Path = nameOf("named"), "named"
		}
		checkRead(t, archiveOf(ahead[i], plain(), rawOf("5", "between", ""), m, second), x, api.Entry{Path: "between", Kind: api.Dir}, third)
	}
	empty := rawOf("x", "", "")
	checkFault(t, "no records, twice", archiveOf(empty, empty, plain()), 512, api.ErrForm)
	checkFault(t, "no records, then some", archiveOf(empty, ahead[2], plain()), 512, api.ErrForm)
	checkFault(t, "an empty name, twice", archiveOf(nameOf(""), nameOf("n"), plain()), 1024, api.ErrForm)
}

// P9.2: heads ahead of no entry: at the two blocks the first of them is at fault, elsewhere what comes.
func TestReadNoEntryBehind(t *testing.T) {
	m, _ := ones()
	for _, ahead := range []string{"", m.text(), pieces(nameOf("n"), linkOf("l"), records(rec("uid", "1")), plain())} {
		at := len(ahead)
		for _, all := range [][]raw{{nameOf("n")}, {linkOf("l")}, {records()}, {records(rec("path", "p"))}, {nameOf(strings.Repeat("n", 600)), linkOf("l")}, {linkOf("l"), nameOf("n"), records()}, {records(), linkOf("l")}} {
			text := pieces(all...)
			checkFault(t, "the end", ahead+text+end, at, api.ErrOrder)
			checkFault(t, "the end, and more", ahead+text+end+m.text()+end, at, api.ErrOrder)
			checkFault(t, "nothing", ahead+text, at+len(text), api.ErrShort)
			checkFault(t, "one block alone", ahead+text+empty, at+len(text), api.ErrShort)
			checkFault(t, "less than two blocks", ahead+text+end[1:], at+len(text), api.ErrShort)
			checkFault(t, "one block, and another one", ahead+text+empty+m.text()+end, at+len(text), api.ErrForm)
			checkFault(t, "a head of anything", ahead+text+strings.Repeat("\xff", 512), at+len(text), api.ErrSum)
		}
	}
	// An entry that is wrong stands ahead of them.
	checkFault(t, "a path", archiveOf(rawOf("0", "/", ""), nameOf("n")), 0, api.ErrName)
}

// someAhead is heads of anything ahead of an entry, mostly right.
func someAhead(random *rand.Rand) []raw {
	pick := func(l ...string) string { return l[random.IntN(len(l))] }
	var all []raw
	for range random.IntN(4) {
		m := rawOf(pick("L", "K"), "", pick("a\x00", "d\x00", "d/b\x00", "n/\x00", "\x00", "n", "", "a\x00b"))
		if random.IntN(2) == 0 {
			var s []string
			for range random.IntN(5) {
				s = append(s, rec(pick("path", "linkpath", "size", "uid", "gid", "mtime", "uname", "gname", "comment", "path", "size"), pick("0", "1", "512", "99", "0", "1", "2", "0", "01", "2097152", "", "a", "d/b")))
			}
			if random.IntN(30) == 0 {
				s = append(s, pick("x", " ", "9 path=p", "8 path=p\n", rec("key", "1"), "4 =\n"))
			}
			m = records(s...)
		}
		if len(all) == 0 || !strings.Contains(all[0].kind+all[len(all)-1].kind, m.kind) || random.IntN(20) == 0 {
			all = append(all, m)
		}
	}
	return all
}

// someHead is an entry's head of anything, mostly right.
func someHead(random *rand.Rand) raw {
	pick := func(l ...string) string { return l[random.IntN(len(l))] }
	m := rawOf(pick("0", "1", "2", "5", "\x00"), pick("a", "b", "c", "d/", "d/b", "d/a", "e", "f"), "")
	if m.kind == "5" {
		m.name = pick("d", "d/", "g/", "h", "d/d/")
	}
	if m.kind == "0" && random.IntN(2) == 0 {
		m.body = strings.Repeat("x", random.IntN(600))
		m.size, m.fill = octal(len(m.body), 11), noughts((512-len(m.body)%512)%512)
	}
	if m.kind == "1" || m.kind == "2" || random.IntN(9) == 0 {
		m.link = pick("a", "b", "d/b", "f", "..")
	}
	if random.IntN(9) == 0 {
		m.prefix = pick("p", "d", "p/q", "a")
	}
	if random.IntN(5) == 0 {
		m.magic = gnu
	}
	if random.IntN(40) == 0 {
		*numbers(&m)[random.IntN(5)] = pick("", "1", "x", "77777777", " 7 \x00", "10000")
	}
	switch random.IntN(90) {
	case 0:
		m.sum = pick("", "x", "0")
	case 1:
		m.magic = pick("", "ustar", "ustar\x00  ")
	case 2:
		m.kind = pick("3", "4", "6", "g", "7")
	case 3:
		m.owner = pick("a:", strings.Repeat("o", 32))
	case 4:
		m.name = pick("", "/", "a//b", "d/../b", "b/")
	}
	return m
}

// P9.2: heads of anything, one behind the other, held against the model.
func TestReadSomething(t *testing.T) {
	random := rand.New(rand.NewPCG(9, 3))
	came := map[api.Errno]int{}
	for range 30000 {
		var all []raw
		for range random.IntN(5) {
			if random.IntN(3) == 0 {
				all = append(all, someAhead(random)...)
			}
			all = append(all, someHead(random))
		}
		if random.IntN(20) == 0 {
			all = append(all, someAhead(random)...)
		}
		b := archiveOf(all...)
		if random.IntN(30) == 0 {
			b = b[:random.IntN(len(b))]
		}
		came[checkReadModel(t, b)]++
	}
	checkCame(t, came, 20, api.OK, api.ErrShort, api.ErrForm, api.ErrSum, api.ErrName, api.ErrKind, api.ErrOrder, api.ErrArg, api.ErrThere)
}

// P9.2: all short texts as records, held against the model.
func TestReadEachRecord(t *testing.T) {
	came := map[api.Errno]int{}
	letters := "6789 =\n"
	for i := range 7 * 7 * 7 * 7 * 7 * 7 {
		s := ""
		for range 6 {
			s += letters[i%7 : i%7+1]
			i /= 7
		}
		if strings.HasPrefix(s, "6") {
			came[checkReadModel(t, archiveOf(records(s), plain()))]++
		}
	}
	checkCame(t, came, 3, api.ErrForm, api.ErrKind)
	for _, s := range []string{rec("path", "p"), rec("uid", "17"), rec("uname", ""), rec("mtime", "8") + rec("path", "q"), rec("size", "0")} {
		for at := range len(s) {
			for v := range 256 {
				checkReadModel(t, archiveOf(records(s[:at]+string([]byte{byte(v)})+s[at+1:]), plain()))
			}
			checkReadModel(t, archiveOf(records(s[:at]), plain()))
			checkReadModel(t, archiveOf(records(s[:at]+s[at+1:]), plain()))
			checkReadModel(t, archiveOf(records(s[:at]+s[at:at+1]+s[at:]), plain()))
		}
	}
}
