package ar_test

import (
	"strings"
	"testing"

	"drayage/api"
)

// P8.2: nothing but the eight bytes, and others in their place.
func TestReadMagic(t *testing.T) {
	checkRead(t, magic)
	head := rawOf("a", "").text()
	for n := range len(magic) {
		checkFault(t, "cut", magic[:n], 0, api.ErrForm)
		checkFault(t, "one lacks", magic[:n]+magic[n+1:]+head, 0, api.ErrForm)
		for v := range 256 {
			if c := string([]byte{byte(v)}); c != magic[n:n+1] {
				checkFault(t, "another byte", magic[:n]+c+magic[n+1:], 0, api.ErrForm)
				checkFault(t, "another byte", magic[:n]+c+magic[n+1:]+head, 0, api.ErrForm)
			}
		}
	}
	checkFault(t, "without", head, 0, api.ErrForm)
	checkFault(t, "one ahead", "\n"+magic, 0, api.ErrForm)
	checkFault(t, "a thin archive", "!<thin>\n", 0, api.ErrForm)
}

// ones is an item with a number, as a member and as it is read.
func ones() (raw, api.Item) {
	m := rawOf("one", "1")
	m.mtime = "1"
	return m, api.Item{Name: "one", Mtime: 1, Data: []byte("1")}
}

// P8.2: items of each style in one archive, with a table and names ahead of bytes.
func TestReadAllStyles(t *testing.T) {
	table := tableOf("a longer name/\n#1/\nx/y/\n/\nend/\n")
	all := []raw{rawOf("common", "c"), rawOf("gnu/", "gg"), rawOf("/0", "ggg"), rawOf("/15", ""), rawOf("/2", ""), rawOf("#1/3", "bsd"), rawOf("#1/5", "b s ddata"), rawOf("#1", ""), rawOf("/27", "e"), rawOf("/0", "again")}
	want := []api.Item{{Name: "common", Data: []byte("c")}, {Name: "gnu", Data: []byte("gg")}, {Name: "a longer name", Data: []byte("ggg")}, {Name: "#1"}, {Name: "longer name"}, {Name: "bsd"}, {Name: "b s d", Data: []byte("data")}, {Name: "#1"}, {Name: "nd", Data: []byte("e")}, {Name: "a longer name", Data: []byte("again")}}
	checkRead(t, archiveOf(append([]raw{table}, all...)...), want...)
	// Without those that need the table.
	checkRead(t, archiveOf(all[0], all[1], all[5], all[6], all[7]), want[0], want[1], want[5], want[6], want[7])
	// A table that nothing needs.
	checkRead(t, archiveOf(table))
	checkRead(t, archiveOf(tableOf("")))
	checkRead(t, archiveOf(tableOf("x")))
	checkRead(t, archiveOf(tableOf(""), all[0]), want[0])
}

// P8.2: what the names in heads may be, without a table and with one.
func TestReadNames(t *testing.T) {
	for _, c := range []struct {
		told, name string
	}{
		{"a", "a"}, {"a/", "a"}, {"a b", "a b"}, {"a b/", "a b"}, {"#1", "#1"}, {"#", "#"}, {"#/", "#"}, {"#1x/", "#1x"}, {"#2/", "#2"}, {"1/", "1"}, {"#01/", "#01"}, {"sixteen bytes it", "sixteen bytes it"}, {"fifteen bytes i/", "fifteen bytes i"}, {"\t", "\t"}, {"a\t", "a\t"}, {"\xff/", "\xff"}, {"..", ".."},
	} {
		m := rawOf(c.told, "data")
		checkRead(t, archiveOf(m), api.Item{Name: c.name, Data: []byte("data")})
		checkRead(t, archiveOf(tableOf("t/\n"), m), api.Item{Name: c.name, Data: []byte("data")})
	}
	for _, c := range []struct {
		told string
		code api.Errno
	}{
		{"", api.ErrName}, {" a", api.ErrName}, {"a /", api.ErrName}, {"a//", api.ErrName}, {"a/b", api.ErrName}, {"a/b/", api.ErrName}, {" /", api.ErrName}, {" //", api.ErrName}, {" /0", api.ErrName}, {" #1/0", api.ErrName}, {"a/0", api.ErrName}, {"a\x00", api.ErrName}, {"a\n", api.ErrName}, {"a/\n", api.ErrName}, {"\x00", api.ErrName}, {"#2/1", api.ErrName}, {"##1/1", api.ErrName},
		{"/", api.ErrKind}, {"/a", api.ErrKind}, {"/ 0", api.ErrKind}, {"/00", api.ErrKind}, {"/07", api.ErrKind}, {"/0/", api.ErrKind}, {"/0a", api.ErrKind}, {"/-0", api.ErrKind}, {"/+0", api.ErrKind}, {"/-1", api.ErrKind}, {"///", api.ErrKind}, {"//0", api.ErrKind}, {"// /", api.ErrKind}, {"//\x00", api.ErrKind}, {"/SYM64/", api.ErrKind}, {"/0\n", api.ErrKind}, {"/\xff", api.ErrKind}, {"/0 0", api.ErrKind},
		{"#1/", api.ErrForm}, {"#1//", api.ErrForm}, {"#1/x", api.ErrForm}, {"#1/ 1", api.ErrForm}, {"#1/01", api.ErrForm}, {"#1/00", api.ErrForm}, {"#1/-1", api.ErrForm}, {"#1/+1", api.ErrForm}, {"#1/1/", api.ErrForm}, {"#1/1a", api.ErrForm}, {"#1/1 1", api.ErrForm}, {"#1/\x00", api.ErrForm}, {"#1/0x1", api.ErrForm},
		{"#1/5", api.ErrShort}, {"#1/9999999999999", api.ErrShort}, {"#1/0", api.ErrName},
	} {
		m := rawOf(c.told, "data")
		checkFault(t, "name", archiveOf(m), 8, c.code)
		checkFault(t, "name behind a table", archiveOf(tableOf("t/\n"), m), 8+60+4, c.code)
		one, _ := ones()
		checkFault(t, "name behind an item", archiveOf(one, m, one), 8+62, c.code)
	}
}

// P8.2: places in the table that have names, and others.
func TestReadPlaces(t *testing.T) {
	table := tableOf("ab/\nc/d/\n/\n/x/\ny/")
	at := 8 + 60 + 18
	for place, name := range map[string]string{"0": "ab", "1": "b", "6": "d", "12": "x"} {
		checkRead(t, archiveOf(table, rawOf("/"+place, "data")), api.Item{Name: name, Data: []byte("data")})
	}
	for _, place := range []string{"2", "3", "4", "5", "7", "8", "9", "10", "11", "13"} {
		checkFault(t, "no name there", archiveOf(table, rawOf("/"+place, "data")), at, api.ErrName)
	}
	for _, place := range []string{"14", "15", "16", "17", "18", "99", "999999999999999"} {
		checkFault(t, "no end, or no place", archiveOf(table, rawOf("/"+place, "data")), at, api.ErrForm)
	}
	for _, empty := range []string{"", "/", "\n", "x", "\n/"} {
		size := (len(empty) + 1) / 2 * 2
		for _, place := range []string{"0", "1", "2"} {
			checkFault(t, "no end, or no place", archiveOf(tableOf(empty), rawOf("/"+place, "")), 8+60+size, api.ErrForm)
		}
	}
	checkFault(t, "an end without a name", archiveOf(tableOf("/\n"), rawOf("/0", "")), 8+62, api.ErrName)
	checkFault(t, "the end of the table alone", archiveOf(tableOf("/\n"), rawOf("/1", "")), 8+62, api.ErrForm)
	// The end isn't looked for in the bytes behind the table.
	checkFault(t, "an end behind", archiveOf(tableOf("x/x/"), rawOf("/2", "")), 8+64, api.ErrForm)
	checkFault(t, "an end in what fills up", archiveOf(tableOf("xx/"), rawOf("/0", "")), 8+64, api.ErrForm)
	n200 := strings.Repeat("n", 200)
	checkRead(t, archiveOf(tableOf("n"+n200+"/\n"), rawOf("/1", "")), api.Item{Name: n200})
	checkFault(t, "a name too long", archiveOf(tableOf("n"+n200+"/\n"), rawOf("/0", "")), 8+60+204, api.ErrName)
	for _, s := range []string{" a", "a ", "a\x00b", "a\nb", "a/b"} {
		m := tableOf(s + "/\n")
		checkFault(t, "no name", archiveOf(m, rawOf("/0", "")), 8+len(m.text()), api.ErrName)
	}
}

// P8.2: names ahead of bytes, of each length.
func TestReadNamesAhead(t *testing.T) {
	body := "abc defg"
	for n := range 12 {
		m := rawOf("#1/"+string("0123456789ab"[n]), body)
		if n >= 10 {
			m = rawOf("#1/1"+string("0123456789ab"[n-10]), body)
		}
		switch {
		case n == 0 || n == 4:
			checkFault(t, "no name", archiveOf(m), 8, api.ErrName)
		case n > len(body):
			checkFault(t, "fewer bytes", archiveOf(m, rawOf("a", "")), 8, api.ErrShort)
		default:
			checkRead(t, archiveOf(m), api.Item{Name: body[:n], Data: []byte(body[n:])})
		}
	}
	n201 := strings.Repeat("n", 201)
	checkRead(t, archiveOf(rawOf("#1/200", n201)), api.Item{Name: n201[:200], Data: []byte("n")})
	checkFault(t, "a name too long", archiveOf(rawOf("#1/201", n201)), 8, api.ErrName)
	for _, name := range []string{"ab/", "/ab", "a/b", "ab\x00", "ab\n", "ab ", " ab"} {
		checkFault(t, "no name", archiveOf(rawOf("#1/3", name+"data")), 8, api.ErrName)
	}
	checkRead(t, archiveOf(rawOf("#1/1", "a")), api.Item{Name: "a"})
	checkRead(t, archiveOf(rawOf("#1/2", "#1data")), api.Item{Name: "#1", Data: []byte("data")})
	checkFault(t, "no bytes", archiveOf(rawOf("#1/1", "")), 8, api.ErrShort)
	checkFault(t, "no bytes, no name", archiveOf(rawOf("#1/0", "")), 8, api.ErrName)
}

// P8.2: a member that is cut, at each place, alone and behind others.
func TestReadCut(t *testing.T) {
	for _, ahead := range [][]raw{nil, {rawOf("a", "odd")}, {tableOf("tabled/\n"), rawOf("a", "even")}} {
		b := archiveOf(ahead...)
		for _, m := range []raw{rawOf("b", ""), rawOf("b", "1"), rawOf("b", "22"), rawOf("b/", strings.Repeat("b", 99)), rawOf("#1/5", "aheaddata"), rawOf("#1/5", "ahead")} {
			text := m.text()
			for n := 1; n < len(text); n++ {
				checkFault(t, "cut", b+text[:n], len(b), api.ErrShort)
			}
			if _, e := modelRead(b + text); e.Code != api.OK {
				t.Errorf("%q: %v", b+text, e)
			}
			checkFault(t, "one more", b+text+"\n", len(b)+len(text), api.ErrShort)
		}
	}
	for n := 1; n < 60; n++ {
		checkFault(t, "a short head of anything", magic+strings.Repeat("\xff", n), 8, api.ErrShort)
	}
	checkFault(t, "a head of anything", magic+strings.Repeat("\xff", 60), 8, api.ErrForm)
}

// P8.2: what stands at the head's end, and behind odd many bytes.
func TestReadEnds(t *testing.T) {
	for v := range 256 {
		c := string([]byte{byte(v)})
		m := rawOf("a", "odd")
		if c != "\n" {
			m.pad = c
			checkFault(t, "behind odd many", archiveOf(m), 8, api.ErrForm)
			m.pad = "\n"
			m.end = "\x60" + c
			checkFault(t, "at the head's end", archiveOf(m), 8, api.ErrForm)
		}
		if c != "\x60" {
			m.end = c + "\n"
			checkFault(t, "at the head's end", archiveOf(m), 8, api.ErrForm)
		}
	}
	m := rawOf("a", "odd")
	m.end = "\n\x60"
	checkFault(t, "the other way round", archiveOf(m), 8, api.ErrForm)
	m = rawOf("a", "even")
	m.pad = "\n"
	checkFault(t, "a byte behind even many", archiveOf(m), 8+64, api.ErrShort)
	m.pad = ""
	m.size = "3"
	checkFault(t, "one byte more than its size", archiveOf(m), 8, api.ErrForm)
	// The table has such a byte, too.
	m = tableOf("odd")
	m.pad = "x"
	checkFault(t, "behind an odd table", archiveOf(m), 8, api.ErrForm)
	checkFault(t, "an odd table's end", strings.TrimSuffix(archiveOf(tableOf("odd")), "\n"), 8, api.ErrShort)
}

// P8.2: numbers that aren't digits and blanks as said, in each field.
func TestReadNumbers(t *testing.T) {
	wrong := []string{"", "00", "01", " 0", "0 0", "-0", "+0", "-1", "+1", "x", "0x0", "0a", "1.", "1,0", "0\x00", "0\n", "0\t", "\t0", "\x00", "0/", "0:", "\xff", "1_0", "0\xff"}
	for _, s := range wrong {
		m := rawOf("a", "")
		m.size = s
		checkFault(t, "size", archiveOf(m), 8, api.ErrForm)
		m = tableOf("")
		m.size = s
		checkFault(t, "the table's size", archiveOf(m), 8, api.ErrForm)
		for i := range 4 {
			checkFault(t, "another field", archiveOf(rawOf("b", ""), withField(rawOf("a", ""), i, s)), 68, api.ErrForm)
		}
	}
	for _, s := range []string{"8", "9", "18", "81", "778"} {
		checkFault(t, "mode", archiveOf(withField(rawOf("a", ""), 3, s)), 8, api.ErrForm)
	}
	for _, s := range []string{"0", "7", "10", "7777"} {
		for i := range 4 {
			checkReadModel(t, archiveOf(withField(rawOf("a", ""), i, s)))
		}
	}
	// Fields without any blank.
	m := raw{"sixteen bytes it", "100000000000", "999999", "100000", "10000000", "0", "\x60\n", "", ""}
	checkFault(t, "the time, and the mode", archiveOf(m), 8, api.ErrArg)
	m.mtime = "8589934591"
	checkFault(t, "the mode", archiveOf(m), 8, api.ErrArg)
	m.mode = "7777"
	checkRead(t, archiveOf(m), api.Item{Name: "sixteen bytes it", Mtime: api.MaxTime, Uid: 999999, Gid: 100000, Mode: api.MaxMode})
	m.mode = "10000"
	checkFault(t, "the mode", archiveOf(m), 8, api.ErrArg)
	m.mode, m.mtime = "0", "8589934592"
	checkFault(t, "the time", archiveOf(m), 8, api.ErrArg)
	m.mtime, m.size = "0", "9999999999"
	checkFault(t, "the size", archiveOf(m), 8, api.ErrShort)
	m.size = "1000000000"
	checkFault(t, "the size", archiveOf(m), 8, api.ErrShort)
}

// withField is a member one of whose fields is another text: the time, the owner, the group, the mode.
func withField(m raw, i int, s string) raw {
	*[]*string{&m.mtime, &m.uid, &m.gid, &m.mode}[i] = s
	return m
}

// P8.2: the table is the first member, and its head has nothing but the size.
func TestReadTable(t *testing.T) {
	table := tableOf("a/\n")
	checkFault(t, "behind an item", archiveOf(rawOf("a", ""), table), 68, api.ErrOrder)
	checkFault(t, "behind another one", archiveOf(table, table), 8+64, api.ErrOrder)
	for i := range 4 {
		for _, s := range []string{"0", "1", "x", " 0", "\x00", "\n", "/"} {
			m := withField(table, i, s)
			checkFault(t, "a field", archiveOf(m), 8, api.ErrForm)
			checkFault(t, "a field, behind an item", archiveOf(rawOf("a", ""), m), 68, api.ErrOrder)
		}
	}
	m := rawOf("//", "a/\n")
	checkFault(t, "fields as of an item", archiveOf(m), 8, api.ErrForm)
	checkFault(t, "no table yet", archiveOf(rawOf("/0", ""), table), 8, api.ErrOrder)
	checkRead(t, archiveOf(table, rawOf("/0", "")), api.Item{Name: "a"})
}
