package tar_test

import (
	"math/rand/v2"
	"strings"
	"testing"

	"drayage/api"
	"drayage/tar"
)

// ones is an entry, as it stands and as it is read.
func ones() (raw, api.Entry) {
	m := rawOf("0", "one", "1")
	m.owner = "root"
	return m, api.Entry{Path: "one", Kind: api.Reg, Owner: "root", Data: []byte("1")}
}

// P9.2: the end: two blocks of bytes 00, whatever is behind them.
func TestReadEnd(t *testing.T) {
	m, x := ones()
	one := m.text()
	checkRead(t, end)
	checkRead(t, one+end, x)
	for _, behind := range []string{"\x00", "x", empty, one, one + end, strings.Repeat("\xff", 512), strings.Repeat("x", 999), empty + one} {
		checkRead(t, end+behind)
		checkRead(t, one+end+behind, x)
	}
	for _, b := range []string{"", one, one + rawOf("5", "d", "").text()} {
		for n := range 1024 {
			at := len(b)
			checkFault(t, "cut", b+end[:n], at, api.ErrShort)
		}
	}
	for at := 512; at < 1024; at++ {
		checkFault(t, "a byte in the second block", end[:at]+"\x01"+end[at+1:], 0, api.ErrForm)
	}
	checkFault(t, "one block", empty+one+end, 0, api.ErrForm)
	checkFault(t, "one block behind an entry", one+empty+one+end, 1024, api.ErrForm)
	checkFault(t, "one block, and less than another one", one+empty+one[:511], 1024, api.ErrShort)
	checkFault(t, "one block, and another one of anything", empty+strings.Repeat("\xff", 512), 0, api.ErrForm)
}

// P9.2: a head that is cut, and one of anything.
func TestReadShortHead(t *testing.T) {
	m, _ := ones()
	for _, ahead := range []string{"", m.text(), pieces(rawOf("5", "d", ""), rawOf("0", "a", strings.Repeat("x", 512)))} {
		for n := range 512 {
			checkFault(t, "cut", ahead+rawOf("5", "e", "").head()[:n], len(ahead), api.ErrShort)
			checkFault(t, "anything", ahead+strings.Repeat("\xff", n), len(ahead), api.ErrShort)
		}
		checkFault(t, "anything", ahead+strings.Repeat("\xff", 512), len(ahead), api.ErrSum)
		checkFault(t, "no end", ahead+rawOf("5", "e", "").head(), len(ahead)+512, api.ErrShort)
	}
}

// P9.2: sums that are right, in each form of a number, and others.
func TestReadSum(t *testing.T) {
	m, x := ones()
	digits := octal(modelSum(m.head()[:148]+"        "+m.head()[156:]), 6)[:6]
	short := strings.TrimLeft(digits, "0")
	for _, s := range []string{digits + "\x00 ", digits + " \x00", digits + "\x00\x00", digits + "  ", "00" + digits, "0" + digits + " ", "  " + digits, "  " + short, " " + short + "\x00", short, short + " \x00 \x00"} {
		m.sum = s[:min(len(s), 8)]
		checkRead(t, archiveOf(m), x)
	}
	for _, s := range []string{"", "        ", "\x00", "0", "000000\x00 ", "x" + digits, digits + "x", digits[:5], "\x00" + digits, " \x00" + short, "-" + digits, "+" + digits, digits[:3] + " " + digits[3:], digits[:5] + "8", "\xff\xff\xff\xff\xff\xff\xff\xff", "77777777", digits + "\x00x", "0x" + short, "\t" + digits} {
		m.sum = s
		checkFault(t, "the sum", archiveOf(m), 0, api.ErrSum)
		checkFault(t, "the sum, behind another one", archiveOf(rawOf("5", "d", ""), m), 512, api.ErrSum)
	}
	right := rawOf("0", "one", "1")
	n, _ := modelNumber(right.head()[148:156])
	for _, off := range []int{-256, -2, -1, 1, 2, 8, 256, n} {
		right.sum = octal(n+off, 6)
		checkFault(t, "not that one", archiveOf(right), 0, api.ErrSum)
	}
}

// P9.2: the sum is that of all bytes, each as a number from 0 to 255, wherever they stand.
func TestReadSumOfAllBytes(t *testing.T) {
	m, _ := ones()
	head := m.head()
	for at := range 512 {
		for _, more := range []byte{1, 2, 0x80, 0xff} {
			b := []byte(head)
			b[at] += more
			want := api.ErrSum
			if at >= 148 && at < 156 {
				want = checkReadModel(t, string(b)+m.body+m.fill+end)
			}
			checkFault(t, "a byte", string(b)+m.body+m.fill+end, 0, want)
		}
	}
	m.rest, m.owner, m.group, m.link, m.more = strings.Repeat("\xff", 12), strings.Repeat("\x80", 31), strings.Repeat("\xff", 31), strings.Repeat("\xff", 100), strings.Repeat("\xfe", 16)
	if checkReadModel(t, archiveOf(m)) != api.OK {
		t.Errorf("%q", m.head())
	}
}

// P9.2: the two magics, and others.
func TestReadMagic(t *testing.T) {
	m, x := ones()
	m.magic = gnu
	checkRead(t, archiveOf(m), x)
	for _, good := range []string{ustar, gnu} {
		for at := range 8 {
			for v := range 256 {
				m.magic = good[:at] + string([]byte{byte(v)}) + good[at+1:]
				if m.magic != ustar && m.magic != gnu {
					checkFault(t, "the magic", archiveOf(m), 0, api.ErrForm)
				}
			}
		}
	}
	for _, s := range []string{"", "ustar", "ustar\x00", "ustar  ", "ustar\x00  ", "ustar  00", "ustar 00", "USTAR\x0000", "00ustar", "ustar   "} {
		m.magic = s[:min(8, len(s))]
		want := checkReadModel(t, archiveOf(m))
		if m.magic == "ustar  " {
			want = api.OK // its byte 00 is one that fills up
		} else if want != api.ErrForm {
			t.Errorf("%q: %d", s, want)
		}
	}
}

// numbers is the fields of a head that are numbers.
func numbers(m *raw) []*string {
	return []*string{&m.mode, &m.uid, &m.gid, &m.size, &m.mtime}
}

// P9.2: what is a number, in each field, and what isn't.
func TestReadNumbers(t *testing.T) {
	m := rawOf("5", "d", "")
	for i, p := range numbers(&m) {
		was := *p
		for _, s := range []string{"x", "8", "9", "0x", "-1", "+0", "0 0", "0\x000", " \x000", "\x000", "0000008\x00", "\t0", "0\n", "\x80\x00\x00\x00\x00\x00\x00\x00", "\xff\xff\xff\xff\xff\xff\xff\xff", "0.", "/", ":", "0\xff"} {
			*p = s
			checkFault(t, "a number", archiveOf(m), 0, api.ErrForm)
			if want := checkReadModel(t, archiveOf(m)); want != api.ErrForm {
				t.Errorf("number %d, %q: the model says %d", i, s, want)
			}
		}
		for _, s := range []string{"", "0", "00000000", "        ", "       0", "0       ", "0\x00 \x00 ", "\x00   \x00", " \x00 ", "  0 "} {
			*p = s
			checkRead(t, archiveOf(m), api.Entry{Path: "d", Kind: api.Dir})
		}
		*p = was
	}
	m = raw{name: "d", mode: " 7777 \x00 ", uid: "07777777", gid: "   123\x00\x00", size: "            ", mtime: "077777777777", sum: "right", kind: "5", magic: ustar}
	checkRead(t, archiveOf(m), api.Entry{Path: "d", Kind: api.Dir, Mode: 0o7777, Uid: 0o7777777, Gid: 0o123, Mtime: 0o77777777777})
	m.mtime = "77777777777"
	checkRead(t, archiveOf(m), api.Entry{Path: "d", Kind: api.Dir, Mode: 0o7777, Uid: 0o7777777, Gid: 0o123, Mtime: 0o77777777777})
}

// P9.2: numbers above their limits: CheckAll says so, behind all that is wrong with the head.
func TestReadLargeNumbers(t *testing.T) {
	for i, s := range []string{"10000", "10000000", "10000000", "", "100000000000"} {
		if s == "" {
			continue // a size has no such limit
		}
		m := rawOf("5", "d", "")
		p := numbers(&m)[i]
		for _, large := range []string{s, s[:len(s)-1] + "1", strings.Repeat("7", []int{8, 8, 8, 12, 12}[i])} {
			*p = large
			checkFault(t, "a large number", archiveOf(m), 0, api.ErrArg)
		}
		*p = strings.Repeat("7", len(s)-1)
		if checkReadModel(t, archiveOf(m)) != api.OK {
			t.Errorf("number %d: %s", i, *p)
		}
		*p = s
		m.name = ""
		checkFault(t, "the name goes ahead", archiveOf(m), 0, api.ErrName)
		m.kind = "6"
		checkFault(t, "the type goes ahead", archiveOf(m), 0, api.ErrKind)
	}
}

// P9.2: each type.
func TestReadTypes(t *testing.T) {
	m, x := ones()
	m.kind = "\x00"
	checkRead(t, archiveOf(m), x)
	for v := range 256 {
		kind := string([]byte{byte(v)})
		m := rawOf(kind, "d", "")
		m.link = "one"
		x := api.Entry{Path: "d", Kind: map[string]int{"0": api.Reg, "\x00": api.Reg, "1": api.Hard, "2": api.Link, "5": api.Dir}[kind]}
		switch {
		case kind == "x":
			checkFault(t, "no entry", archiveOf(m), 0, api.ErrOrder)
		case kind == "L" || kind == "K":
			checkFault(t, "no text", archiveOf(m), 0, api.ErrForm)
		case x.Kind == 0:
			checkFault(t, "no type", archiveOf(m), 0, api.ErrKind)
		case x.Kind == api.Hard:
			x.Link = "one"
			file := rawOf("0", "one", "1")
			checkRead(t, archiveOf(file, m), api.Entry{Path: "one", Kind: api.Reg, Data: []byte("1")}, x)
			checkFault(t, "no file", archiveOf(m), 0, api.ErrOrder)
		case x.Kind == api.Link:
			x.Link = "one"
			checkRead(t, archiveOf(m), x)
		default:
			checkRead(t, archiveOf(m), x)
		}
	}
}

// P9.2: sizes of files, and of those that have no bytes.
func TestReadSizes(t *testing.T) {
	for _, kind := range []string{"1", "2", "5"} {
		for _, n := range []int{1, 511, 512, 513} {
			m := rawOf(kind, "d", strings.Repeat("x", n))
			m.link = "l"
			checkFault(t, "bytes", archiveOf(m), 0, api.ErrForm)
			checkFault(t, "bytes that lack", m.head(), 0, api.ErrForm)
			m.size = "77777777777"
			checkFault(t, "bytes that lack", m.head(), 0, api.ErrForm)
		}
	}
	for _, kind := range []string{"0", "\x00"} {
		for _, n := range []int{1, 2, 511, 512, 513, 1024, 1025} {
			m := rawOf(kind, "f", strings.Repeat("x", n))
			text := m.text()
			checkRead(t, archiveOf(m), api.Entry{Path: "f", Kind: api.Reg, Data: []byte(m.body)})
			for cut := 512; cut < len(text); cut++ {
				checkFault(t, "cut", text[:cut], 0, api.ErrShort)
			}
			checkFault(t, "no end", text, len(text), api.ErrShort)
			m.fill = strings.Repeat("f", len(m.fill)) // what fills up says nothing
			checkRead(t, archiveOf(m), api.Entry{Path: "f", Kind: api.Reg, Data: []byte(m.body)})
		}
	}
	m := rawOf("0", "f", "")
	for _, s := range []string{"77777777777", "777777777777", "40000000000", "20000000000", "2001"} {
		m.size = s
		checkFault(t, "many bytes", archiveOf(m), 0, api.ErrShort)
	}
	m = rawOf("0", "f", strings.Repeat("x", api.MaxData))
	checkRead(t, archiveOf(m), api.Entry{Path: "f", Kind: api.Reg, Data: []byte(m.body)})
	m = rawOf("0", "f", strings.Repeat("x", api.MaxData+1))
	checkFault(t, "too many bytes", archiveOf(m), 0, api.ErrLarge)
	m.mode = "10000"
	checkFault(t, "a number goes ahead", archiveOf(m), 0, api.ErrArg)
}

// P9.2: texts end at the first byte 00, or at the field's end.
func TestReadTexts(t *testing.T) {
	n100, o32 := strings.Repeat("n", 100), strings.Repeat("o", 32)
	m := rawOf("2", n100, "")
	m.link, m.owner, m.group = strings.Repeat("l", 100), o32[:31], o32[:31]
	checkRead(t, archiveOf(m), api.Entry{Path: n100, Kind: api.Link, Link: m.link, Owner: m.owner, Group: m.group})
	m = rawOf("2", "a\x00b", "")
	m.link, m.owner, m.group, m.prefix = "c\x00/d", "e\x00\x00f", "g\x00:", "h\x00i"
	checkRead(t, archiveOf(m), api.Entry{Path: "h/a", Kind: api.Link, Link: "c", Owner: "e", Group: "g"})
	m.owner, m.group, m.prefix = "\x00e", "\x00g", "\x00h"
	checkRead(t, archiveOf(m), api.Entry{Path: "a", Kind: api.Link, Link: "c"})
	m.owner = o32
	checkFault(t, "an owner of 32 bytes", archiveOf(m), 0, api.ErrName)
	m.owner, m.group = "", o32
	checkFault(t, "a group of 32 bytes", archiveOf(m), 0, api.ErrName)
	for _, s := range []string{"a:", "a\n", ":", "\n"} {
		m := rawOf("0", "a", "")
		m.owner = s
		checkFault(t, "an owner", archiveOf(m), 0, api.ErrName)
		m.owner, m.group = "", s
		checkFault(t, "a group", archiveOf(m), 0, api.ErrName)
	}
	// The two more numbers, and what stands behind the prefix, say nothing.
	m = rawOf("0", "a", "")
	m.more, m.rest = strings.Repeat("\xff", 16), strings.Repeat("x", 12)
	checkRead(t, archiveOf(m), api.Entry{Path: "a", Kind: api.Reg})
	m.more, m.rest = "", ""
	checkRead(t, archiveOf(m), api.Entry{Path: "a", Kind: api.Reg})
}

// P9.2: names, with a prefix and without, of files and of directories.
func TestReadNames(t *testing.T) {
	p155, n44 := strings.Repeat("p", 155), strings.Repeat("n", 44)
	for _, c := range []struct {
		kind, magic, prefix, name, path string
	}{
		{"0", ustar, "", "a", "a"}, {"0", gnu, "", "a", "a"}, {"0", ustar, "p", "a", "p/a"}, {"0", gnu, "p", "a", "a"},
		{"0", ustar, "p/q", "a/b", "p/q/a/b"}, {"0", gnu, "p//", "a/b", "a/b"}, {"0", ustar, p155, n44, p155 + "/" + n44}, {"0", gnu, p155, n44, n44},
		{"5", ustar, "", "a", "a"}, {"5", ustar, "", "a/", "a"}, {"5", gnu, "x", "a/", "a"}, {"5", ustar, "p", "a/", "p/a"}, {"5", ustar, "p", "a", "p/a"}, {"5", ustar, "p", "", "p"}, {"5", ustar, p155, n44 + "/", p155 + "/" + n44},
		{"2", ustar, "p", "a", "p/a"}, {"0", ustar, "...", ".a", ".../.a"}, {"0", ustar, "\xff", "\n", "\xff/\n"},
		// Those that are no paths.
		{"0", ustar, "", "", ""}, {"0", ustar, "", "a/", ""}, {"0", ustar, "p", "", ""}, {"0", ustar, "p/", "a", ""}, {"0", ustar, "/p", "a", ""}, {"0", ustar, "p", "/a", ""}, {"0", ustar, "/", "a", ""}, {"0", ustar, ".", "a", ""}, {"0", gnu, "p", "/a", ""}, {"0", gnu, "p", "", ""},
		{"5", ustar, "", "", ""}, {"5", ustar, "", "/", ""}, {"5", ustar, "", "a//", ""}, {"5", ustar, "", "./", ""}, {"5", ustar, "", ".", ""}, {"5", ustar, "", "./a/", ""}, {"5", ustar, "p", "/", ""}, {"5", gnu, "p", "", ""}, {"5", gnu, "p", "/", ""}, {"5", ustar, p155, n44 + "n/", ""},
		{"2", ustar, "", "a/", ""}, {"\x00", ustar, "", "a/", ""}, {"0", ustar, p155, n44 + "n", ""},
	} {
		m := rawOf(c.kind, c.name, "")
		m.magic, m.prefix = c.magic, c.prefix
		if c.kind == "2" {
			m.link = "l"
		}
		if c.path == "" {
			checkFault(t, "no path", archiveOf(m), 0, api.ErrName)
			one, _ := ones()
			checkFault(t, "no path", archiveOf(one, m), 1024, api.ErrName)
			continue
		}
		x := api.Entry{Path: c.path, Kind: map[string]int{"0": api.Reg, "2": api.Link, "5": api.Dir}[c.kind], Link: m.link}
		checkRead(t, archiveOf(m), x)
	}
}

// P9.2: links, of those types that have one.
func TestReadLinks(t *testing.T) {
	for _, kind := range []string{"0", "\x00", "5"} {
		m := rawOf(kind, "a", "")
		m.link = "says nothing\n"
		checkRead(t, archiveOf(m), api.Entry{Path: "a", Kind: kindOf(kind)})
	}
	m := rawOf("2", "a", "")
	checkFault(t, "no link", archiveOf(m), 0, api.ErrName)
	m.link = "a\nb"
	checkFault(t, "no link", archiveOf(m), 0, api.ErrName)
	for _, s := range []string{"/", "..", "a//b/", " ", "\xff"} {
		m.link = s
		checkRead(t, archiveOf(m), api.Entry{Path: "a", Kind: api.Link, Link: s})
	}
	file := rawOf("0", "d/f", "data")
	m = rawOf("1", "a", "")
	for s, code := range map[string]api.Errno{"": api.ErrName, "a": api.ErrName, "d/": api.ErrName, "d": api.ErrOrder, "f": api.ErrOrder, "./d/f": api.ErrName, "d/f/": api.ErrName} {
		m.link = s
		checkFault(t, s, archiveOf(file, m), 1024, code)
	}
	m.link = "d/f"
	x, h := api.Entry{Path: "d/f", Kind: api.Reg, Data: []byte("data")}, api.Entry{Path: "a", Kind: api.Hard, Link: "d/f"}
	checkRead(t, archiveOf(file, m), x, h)
	checkFault(t, "the file comes behind", archiveOf(m, file), 0, api.ErrOrder)
	for i, p := range numbers(&m) {
		if i == 3 {
			continue
		}
		was := *p
		*p = "1"
		checkFault(t, "another number", archiveOf(file, m), 1024, api.ErrArg)
		*p = was
	}
	m.owner = "root"
	checkFault(t, "another owner", archiveOf(file, m), 1024, api.ErrArg)
}

// kindOf is the kind of a type of an entry.
func kindOf(kind string) int {
	return map[string]int{"0": api.Reg, "\x00": api.Reg, "1": api.Hard, "2": api.Link, "5": api.Dir}[kind]
}

// P9.2: what CheckAll says of an entry behind others, at its own head.
func TestReadLists(t *testing.T) {
	file, dir, under := rawOf("0", "a", "x"), rawOf("5", "d/", ""), rawOf("0", "d/e", "")
	checkRead(t, archiveOf(file, dir, under), api.Entry{Path: "a", Kind: api.Reg, Data: []byte("x")}, api.Entry{Path: "d", Kind: api.Dir}, api.Entry{Path: "d/e", Kind: api.Reg})
	checkFault(t, "twice", archiveOf(file, dir, file), 1536, api.ErrThere)
	checkFault(t, "twice, once with a /", archiveOf(dir, rawOf("5", "d", "")), 512, api.ErrThere)
	checkFault(t, "under a file", archiveOf(dir, file, rawOf("0", "a/b", "")), 1536, api.ErrKind)
	checkFault(t, "above another one", archiveOf(under, file, rawOf("0", "d", "")), 1536, api.ErrKind)
	// The first entry that is wrong, whatever is behind it.
	broken := rawOf("0", "b", "")
	broken.sum = ""
	for _, behind := range []string{"", "x", empty, broken.text(), rawOf("0", "/", "").text(), file.text()} {
		checkFault(t, "twice, and more", pieces(file, file)+behind, 1024, api.ErrThere)
		checkFault(t, "a path, and more", pieces(dir, rawOf("0", "/", ""))+behind, 512, api.ErrName)
	}
	checkFault(t, "a sum, and more", archiveOf(file, broken, file), 1024, api.ErrSum)
}

// P9.2: as many entries as there may be, and more.
func TestReadMost(t *testing.T) {
	var b strings.Builder
	l := many(api.MaxEntries + 1)
	for _, x := range l {
		b.WriteString(modelHead(x).text())
	}
	all := b.String()
	most := all[:len(all)-512]
	checkRead(t, most+end, l[:api.MaxEntries]...)
	checkFault(t, "no end", most, len(most), api.ErrShort)
	checkFault(t, "one more", all+end, len(most), api.ErrLarge)
	checkFault(t, "one more, no end", all, len(most), api.ErrLarge)
	checkFault(t, "one more that is wrong", most+rawOf("0", "/", "").text(), len(most), api.ErrLarge)
	checkFault(t, "one more that came", most+all[:512], len(most), api.ErrLarge)
	checkFault(t, "one more, with a name ahead", most+rawOf("L", "", "name\x00").text()+all[:512], len(most)+1024, api.ErrLarge)
	checkFault(t, "a name ahead", most+rawOf("L", "", "name\x00").text()+end, len(most), api.ErrOrder)
	checkFault(t, "a name ahead, twice", most+strings.Repeat(rawOf("L", "", "name\x00").text(), 2), len(most)+1024, api.ErrForm)
	// What is wrong with its head goes ahead.
	m := rawOf("5", "e", "")
	m.kind = "6"
	checkFault(t, "one more of no kind", most+m.text(), len(most), api.ErrKind)
	m.kind, m.sum = "5", ""
	checkFault(t, "one more without a sum", most+m.text(), len(most), api.ErrSum)
	checkFault(t, "one more with bytes", most+rawOf("5", "e", "x").text(), len(most), api.ErrForm)
	checkFault(t, "one more that is cut", most+rawOf("0", "e", "x").head(), len(most), api.ErrShort)
	checkFault(t, "half of one more", most+m.text()[:511], len(most), api.ErrShort)
	// What is wrong ahead of it goes ahead, too.
	twice := all[:512] + all[:len(all)-1024]
	checkFault(t, "one twice, and one more", twice+all[len(all)-1024:], 512, api.ErrThere)
	checkFault(t, "the last one twice", most[:len(most)-512]+all[:512]+all[len(all)-1024:], len(most)-512, api.ErrThere)
}

// written is archives with entries of each kind, and long texts, in each style.
func written() []string {
	long := strings.Repeat("long", 30)
	short := []api.Entry{{Path: "d", Kind: api.Dir, Mode: 0o755}, {Path: "d/f", Kind: api.Reg, Mode: 0o644, Uid: 1, Gid: 2, Owner: "root", Group: "wheel", Mtime: 99, Data: []byte("data")}}
	hard := short[1]
	hard.Path, hard.Kind, hard.Link, hard.Data = "a", api.Hard, "d/f", nil
	parted := api.Entry{Path: long[:60] + "/" + long[:60], Kind: api.Reg}
	var all []string
	for style, l := range [][]api.Entry{append(short, hard, parted), {short[0], {Path: long, Kind: api.Link, Link: long + "er"}}, {{Path: "d/" + long, Kind: api.Dir}, {Path: long, Kind: api.Link, Link: long + "er"}}} {
		b, _ := tar.Write(l, style)
		all = append(all, string(b))
	}
	link := rawOf("2", "l", "")
	link.link = "x"
	return append(all, archiveOf(records(rec("size", "5"), rec("uname", "root"), rec("path", "p")), rawOf("0", "f", "12345"), rawOf("L", "", "n\x00"), rawOf("K", "", "k\x00"), link))
}

// mended is an archive the sum of whose head at a place is made right.
func mended(b string, at int) string {
	return b[:at+148] + octal(modelSum(b[at:at+148]+"        "+b[at+156:at+512]), 6) + " " + b[at+156:]
}

// P9.2: archives with bytes changed, the heads' sums made right again or not, held against the model.
func TestReadChanged(t *testing.T) {
	came := map[api.Errno]int{}
	random := rand.New(rand.NewPCG(9, 2))
	for _, b := range written() {
		for at := range len(b) {
			for range 3 {
				v := "\x00\x00 01579Lx/\n=\xff"[random.IntN(13)]
				spoiled := b[:at] + string([]byte{v}) + b[at+1:]
				came[checkReadModel(t, spoiled)]++
				came[checkReadModel(t, mended(spoiled, at/512*512))]++
			}
		}
	}
	checkCame(t, came, 1, api.OK, api.ErrShort, api.ErrForm, api.ErrSum, api.ErrName, api.ErrKind, api.ErrOrder, api.ErrArg, api.ErrThere)
}

// P9.2: archives that are cut, or lack blocks, or have some twice, held against the model.
func TestReadShifted(t *testing.T) {
	for _, b := range written() {
		for n := range len(b) + 1 {
			checkReadModel(t, b[:n])
		}
		for from := 0; from <= len(b); from += 512 {
			for to := 0; to <= len(b); to += 512 {
				checkReadModel(t, b[:from]+b[to:])
				for _, block := range []string{empty, b[:512], rawOf("L", "", "").head(), rawOf("0", "a", "").head()} {
					checkReadModel(t, b[:from]+block+b[to:])
				}
			}
		}
	}
}
