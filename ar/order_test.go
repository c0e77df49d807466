package ar_test

import (
	"math/rand/v2"
	"slices"
	"strings"
	"testing"

	"drayage/api"
	"drayage/ar"
)

// flaw is something that is wrong with a member; flaws are in the order in which they are looked for.
type flaw struct {
	what string
	code api.Errno
	put  func(*raw)
}

// flaws is what may be wrong with an item, the first looked for first.
func flaws() []flaw {
	return []flaw{
		{"no end of the head", api.ErrForm, func(m *raw) { m.end = "\n\n" }},
		{"no size", api.ErrForm, func(m *raw) { m.size = "x" }},
		{"short", api.ErrShort, func(m *raw) { m.size = "9999" }},
		{"another byte behind", api.ErrForm, func(m *raw) { m.pad = "x" }},
		{"no time", api.ErrForm, func(m *raw) { m.mtime = "x" }},
		{"no owner", api.ErrForm, func(m *raw) { m.uid = "x" }},
		{"no group", api.ErrForm, func(m *raw) { m.gid = "x" }},
		{"no mode", api.ErrForm, func(m *raw) { m.mode = "8" }},
	}
}

// bad is names in heads that aren't right, and why, without a table.
func bad() []flaw {
	told := func(name string) func(*raw) { return func(m *raw) { m.name = name } }
	return []flaw{
		{"a table", api.ErrOrder, told("//")},
		{"a place", api.ErrOrder, told("/0")},
		{"a / alone", api.ErrKind, told("/")},
		{"another one behind /", api.ErrKind, told("/x")},
		{"a name ahead", api.ErrShort, told("#1/99")},
		{"no length", api.ErrForm, told("#1/x")},
		{"no name", api.ErrName, told("")},
		{"a name that is none", api.ErrName, told("a/b")},
		{"no name ahead", api.ErrName, told("#1/0")},
	}
}

// large is a flaw of an item's numbers, which Check finds.
func large() []flaw {
	return []flaw{
		{"the time", api.ErrArg, func(m *raw) { m.mtime = "8589934592" }},
		{"the mode", api.ErrArg, func(m *raw) { m.mode = "10000" }},
	}
}

// wrongWith is an archive whose second member has some flaws.
func wrongWith(all ...flaw) (b, what string) {
	m := rawOf("a", "odd")
	for _, f := range all {
		f.put(&m)
		what += f.what + ", "
	}
	return archiveOf(rawOf("ahead", ""), m), what
}

// P8.2: of each two things that are wrong with a member, the one that is named first.
func TestReadOrder(t *testing.T) {
	first, names, last := flaws(), bad(), large()
	for i, f := range first {
		b, what := wrongWith(f)
		checkFault(t, what, b, 68, f.code)
		for _, g := range slices.Concat(first[i+1:], names, last) {
			b, what := wrongWith(g, f)
			want := f.code
			if g.what == "a table" && i >= 4 {
				want = api.ErrOrder // it is asked ahead of other fields than the size
			}
			checkFault(t, what, b, 68, want)
		}
	}
	for _, f := range names {
		b, what := wrongWith(f)
		checkFault(t, what, b, 68, f.code)
		for _, g := range last {
			b, what := wrongWith(f, g)
			checkFault(t, what, b, 68, f.code)
		}
	}
	for _, f := range last {
		b, what := wrongWith(f)
		checkFault(t, what, b, 68, f.code)
	}
}

// P8.2: what is wrong with the first member that is wrong, and at its place.
func TestReadFirstFault(t *testing.T) {
	all := slices.Concat(flaws(), bad(), large())
	for _, f := range all {
		if f.what == "short" {
			continue // what is behind it would be its bytes
		}
		for _, g := range all {
			b, what := wrongWith(f)
			m := rawOf("a", "odd")
			g.put(&m)
			checkFault(t, what+"then "+g.what, b+m.text(), 68, f.code)
		}
	}
	checkFault(t, "the eight bytes ahead of all", "!<arch>\r"+strings.Repeat("x", 99), 0, api.ErrForm)
}

// P8.2: items up to the limit, and anything behind them.
func TestReadMostItems(t *testing.T) {
	one, x := ones()
	most := archiveOf(slices.Repeat([]raw{one}, api.MaxEntries)...)
	items := slices.Repeat([]api.Item{x}, api.MaxEntries)
	checkRead(t, most, items...)
	table := tableOf("a/\n").text()
	tabled := magic + table + most[len(magic):]
	checkRead(t, tabled, items...)
	for _, b := range []string{most, tabled} {
		for _, behind := range []string{"\n", "x", one.text(), one.text()[:59], table, rawOf("/", "").text(), strings.Repeat("\xff", 60), strings.Repeat("x", 999)} {
			checkFault(t, "behind the most", b+behind, len(b), api.ErrLarge)
		}
		fewer := b[:len(b)-len(one.text())]
		checkRead(t, fewer, items[1:]...)
		checkFault(t, "behind fewer", fewer+"\n", len(fewer), api.ErrShort)
		checkFault(t, "behind fewer", fewer+rawOf("/", "").text(), len(fewer), api.ErrKind)
	}
}

// P8.2: bytes up to the limit, and above it, in each style.
func TestReadMostData(t *testing.T) {
	most := strings.Repeat("x", api.MaxData)
	name := strings.Repeat("n", 200)
	table := tableOf(name + "/\n")
	at := 8 + len(table.text())
	checkRead(t, archiveOf(rawOf("a", most)), api.Item{Name: "a", Data: []byte(most)})
	checkFault(t, "one more", archiveOf(rawOf("a", most+"x")), 8, api.ErrLarge)
	checkRead(t, archiveOf(table, rawOf("/0", most)), api.Item{Name: name, Data: []byte(most)})
	checkFault(t, "one more", archiveOf(table, rawOf("/0", most+"x")), at, api.ErrLarge)
	checkRead(t, archiveOf(rawOf("#1/200", name+most)), api.Item{Name: name, Data: []byte(most)})
	checkFault(t, "one more", archiveOf(rawOf("#1/200", name+most+"x")), 8, api.ErrLarge)
	// Names, and numbers, are asked ahead of it.
	checkFault(t, "no name", archiveOf(rawOf("#1/200", "/"+name+most+"x")), 8, api.ErrName)
	checkFault(t, "the mode", archiveOf(withField(rawOf("a", most+"x"), 3, "10000")), 8, api.ErrArg)
	checkFault(t, "no mode", archiveOf(withField(rawOf("a", most+"x"), 3, "")), 8, api.ErrForm)
	checkFault(t, "a / alone", archiveOf(rawOf("/", most+"x")), 8, api.ErrKind)
	// A table may have more.
	table = tableOf(most + most + "xy/\n")
	checkRead(t, archiveOf(table, rawOf("/2097153", "data")), api.Item{Name: "y", Data: []byte("data")})
	checkFault(t, "a long name", archiveOf(table, rawOf("/0", "data")), 8+len(table.text()), api.ErrName)
}

// P8.2: all short names in heads, held against the model, without a table and with one.
func TestReadEachName(t *testing.T) {
	came := map[api.Errno]int{}
	for _, name := range texts("/#10a \n", 5) {
		m := rawOf(name, "a0")
		came[checkReadModel(t, archiveOf(m))]++
		if len(name) < 5 {
			came[checkReadModel(t, archiveOf(tableOf("a/\n1/0/\n#"), m))]++
			came[checkReadModel(t, archiveOf(rawOf("b", ""), m))]++
		}
	}
	for _, code := range []api.Errno{api.OK, api.ErrName, api.ErrKind, api.ErrForm, api.ErrShort, api.ErrOrder} {
		if came[code] == 0 {
			t.Errorf("%d never came: %v", code, came)
		}
	}
}

// P8.2: all short tables, and each place in them.
func TestReadEachTable(t *testing.T) {
	for _, table := range texts("a/\n ", 6) {
		for at := range len(table) + 2 {
			checkReadModel(t, archiveOf(tableOf(table), rawOf("/"+string("01234567"[at]), "")))
		}
	}
}

// written is archives with items of each kind, in each style.
func written() []string {
	long := strings.Repeat("long ", 4) + "n"
	l := []api.Item{{Name: "a", Mtime: 1, Mode: 0o7777, Data: []byte("odd")}, {Name: "b c", Uid: 1000, Gid: 99}, {Name: "#1", Data: []byte("even")}}
	var all []string
	for style := range 3 {
		b, _ := ar.Write(l, style)
		all = append(all, string(b))
		l = append(l, api.Item{Name: long, Mode: 0o777, Data: []byte("x")})
	}
	return append(all, archiveOf(tableOf("x/\nyy/\n"), rawOf("/0", ""), rawOf("#1/2", "ab"), rawOf("/3", "y")))
}

// P8.2: archives with each byte changed to each other one, held against the model.
func TestReadChanged(t *testing.T) {
	came := map[api.Errno]int{}
	for _, b := range written() {
		for at := range len(b) {
			for v := range 256 {
				came[checkReadModel(t, b[:at]+string([]byte{byte(v)})+b[at+1:])]++
			}
		}
	}
	for _, code := range []api.Errno{api.OK, api.ErrName, api.ErrKind, api.ErrForm, api.ErrShort, api.ErrOrder, api.ErrArg} {
		if came[code] == 0 {
			t.Errorf("%d never came: %v", code, came)
		}
	}
}

// P8.2: archives that are cut, or have bytes less or more at each place.
func TestReadShifted(t *testing.T) {
	for _, b := range written() {
		for at := range len(b) + 1 {
			checkReadModel(t, b[:at])
			for n := 1; n < 4 && at+n <= len(b); n++ {
				checkReadModel(t, b[:at]+b[at+n:])
			}
			for _, more := range []string{"\n", " ", "0", "1", "/", "x", "\x00", "//", "\n\n"} {
				checkReadModel(t, b[:at]+more+b[at:])
			}
		}
	}
}

// someRaw is a member of anything, mostly right.
func someRaw(random *rand.Rand) raw {
	pick := func(l ...string) string { return l[random.IntN(len(l))] }
	m := rawOf(pick("a", "b/", "c d", "/0", "/3", "/9", "#1/2", "#1/9", "sixteen bytes it"), string(someBytes(random.IntN(12))))
	if random.IntN(3) > 0 {
		m.body = strings.Repeat("n", len(m.body))
	}
	if random.IntN(6) == 0 {
		m = tableOf(pick("", "x/\n", "aa/\nbb/\n", "long name of some/\nand/\n", "a/b/\n", "aaaaaaaaaa"))
	}
	switch random.IntN(40) {
	case 0:
		m.name = pick("", "/", "//x", "/01", "#1/", "#1/x", "a/b", " a", "a\x00", "///")
	case 1:
		m.mtime = pick("", "01", "999999999999", "8589934591", "8589934592", "x")
	case 2:
		m.uid = pick("", "01", "999999", " 1")
	case 3:
		m.gid = pick("", "01", "999999", "1 1")
	case 4:
		m.mode = pick("", "01", "7777", "10000", "8", "7777777", "77777777")
	case 5:
		m.size = pick("", "01", "0", "1", "5", "99", "x", "9999999999")
	case 6:
		m.end = pick("\n\n", "\x60\x60", "\x60 ")
	case 7:
		m.pad = pick("", "\n", "x")
	}
	return m
}

// P8.2: members of anything, one behind the other, held against the model.
func TestReadSomething(t *testing.T) {
	random := rand.New(rand.NewPCG(8, 2))
	came := map[api.Errno]int{}
	for range 60000 {
		all := make([]raw, random.IntN(7))
		for i := range all {
			all[i] = someRaw(random)
		}
		if len(all) > 0 && random.IntN(2) == 0 {
			all[0] = tableOf("aa/\nbb/\nlong name of some/\n")
		}
		came[checkReadModel(t, archiveOf(all...))]++
	}
	for _, code := range []api.Errno{api.OK, api.ErrName, api.ErrKind, api.ErrForm, api.ErrShort, api.ErrOrder, api.ErrArg} {
		if came[code] < 500 {
			t.Errorf("%d came %d times: %v", code, came[code], came)
		}
	}
}
