package tar_test

import (
	"math"
	"math/rand/v2"
	"strings"
	"testing"

	"drayage/api"
	"drayage/tar"
)

// checkWrite holds an archive against what it should be, and reads it.
func checkWrite(t *testing.T, style int, want string, l ...api.Entry) {
	t.Helper()
	b, e := tar.Write(l, style)
	if string(b) != want || e != api.OK {
		t.Errorf("style %d: %s %d, not %s", style, brief(string(b)), e, brief(want))
	}
	checkRead(t, want, l...)
}

// checkNotWritten asks for an archive that there isn't.
func checkNotWritten(t *testing.T, what string, l []api.Entry, style int, want api.Errno) {
	t.Helper()
	b, e := tar.Write(l, style)
	if len(b) != 0 || e != want {
		t.Errorf("%s, style %d: %d bytes, %d, not %d", what, style, len(b), e, want)
	}
}

// noughts is so many bytes 00.
func noughts(n int) string {
	return strings.Repeat("\x00", n)
}

// P9.1: the chapter's example, written out byte by byte, and the three numbers of the styles.
func TestWriteExample(t *testing.T) {
	x := api.Entry{Path: "a", Kind: api.Reg, Data: []byte("x")}
	ahead := "a" + noughts(99) + "0000000\x000000000\x000000000\x0000000000001\x0000000000000\x00"
	behind := noughts(64) + "0000000\x000000000\x00" + noughts(167)
	bytes := "x" + noughts(511) + noughts(1024)
	for style, m := range []string{"ustar\x0000", "ustar  \x00", "ustar\x0000"} {
		// 97 for the name, 48 for 6 * 3 + 11 + 10 + 7 * 2 digits, 49 for the last one of the size, 8 blanks, "0", and the magic.
		sum := 97 + 48*(7*3+10+11+7*2) + 49 + 8*32 + 48
		for _, c := range []byte(m) {
			sum += int(c)
		}
		want := ahead + octal(sum, 6) + " " + "0" + noughts(100) + m + behind + bytes
		if len(want) != 2048 {
			t.Fatalf("%d bytes", len(want))
		}
		checkWrite(t, style, want, x)
	}
	if tar.Ustar != 0 || tar.Gnu != 1 || tar.Pax != 2 {
		t.Errorf("%d %d %d", tar.Ustar, tar.Gnu, tar.Pax)
	}
}

// P9.1: no entries, in each style: two blocks.
func TestWriteNothing(t *testing.T) {
	for style := range 3 {
		checkWrite(t, style, noughts(1024))
		checkWrite(t, style, noughts(1024), []api.Entry{}...)
	}
}

// P9.1: each field at its place, filled up or full, of each kind.
func TestWriteFields(t *testing.T) {
	o31, g31 := strings.Repeat("o", 31), strings.Repeat("g", 31)
	for style := range 3 {
		of := func(kind, name, body string) raw {
			m := rawOf(kind, name, body)
			m.magic = []string{ustar, gnu, ustar}[style]
			return m
		}
		file, dir, link, hard, last := of("0", "d/f", "data"), of("5", "d/", ""), of("2", "l", ""), of("1", "h", ""), of("0", "z", "\x00\xff\n")
		dir.mode, dir.uid, dir.gid, dir.mtime = "0000755\x00", "0000001\x00", "0000002\x00", "00000000003\x00"
		file.mode, file.uid, file.gid, file.mtime = "0007777\x00", "7777777\x00", "7777777\x00", "77777777777\x00"
		file.owner, file.group = o31, g31
		link.link, link.owner, link.group = "/any//where/../\xff", "root", "wheel \xff"
		hard.link = "d/f"
		hard.mode, hard.uid, hard.gid, hard.mtime, hard.owner, hard.group = file.mode, file.uid, file.gid, file.mtime, o31, g31
		l := []api.Entry{
			{Path: "d", Kind: api.Dir, Mode: 0o755, Uid: 1, Gid: 2, Mtime: 3},
			{Path: "d/f", Kind: api.Reg, Mode: api.MaxMode, Uid: api.MaxId, Gid: api.MaxId, Mtime: api.MaxTime, Owner: o31, Group: g31, Data: []byte("data")},
			{Path: "l", Kind: api.Link, Link: "/any//where/../\xff", Owner: "root", Group: "wheel \xff"},
			{Path: "h", Kind: api.Hard, Mode: api.MaxMode, Uid: api.MaxId, Gid: api.MaxId, Mtime: api.MaxTime, Owner: o31, Group: g31, Link: "d/f"},
			{Path: "z", Kind: api.Reg, Data: []byte("\x00\xff\n")},
		}
		checkWrite(t, style, archiveOf(dir, file, link, hard, last), l...)
	}
}

// P9.1: bytes are filled up to whole blocks, and none if they are whole.
func TestWriteBlocks(t *testing.T) {
	for _, c := range []struct{ size, all int }{{0, 1536}, {1, 2048}, {511, 2048}, {512, 2048}, {513, 2560}, {1023, 2560}, {1024, 2560}, {1025, 3072}, {api.MaxData - 1, 1536 + 1<<20}, {api.MaxData, 1536 + 1<<20}} {
		for style := range 3 {
			l := []api.Entry{{Path: "a", Kind: api.Reg, Data: []byte(strings.Repeat("\xff", c.size))}}
			b, e := tar.Write(l, style)
			if len(b) != c.all || e != api.OK || strings.Count(string(b[512:]), "\xff") != c.size {
				t.Errorf("style %d, %d bytes: %d, not %d", style, c.size, len(b), c.all)
			}
			checkWriteModel(t, append(l, api.Entry{Path: "b", Kind: api.Dir}), style)
		}
	}
	for n := range 1600 {
		checkWriteModel(t, []api.Entry{{Path: "a", Kind: api.Reg, Data: someBytes(n)}, {Path: "b", Kind: api.Reg, Data: someBytes(1600 - n)}}, n%3)
	}
}

// someBytes is so many bytes, of each kind, and others each time.
func someBytes(n int) []byte {
	random := rand.New(rand.NewPCG(9, uint64(n)))
	b := make([]byte, n)
	for i := range b {
		b[i] = byte(random.UintN(256))
	}
	return b
}

// named is an entry of a path of parts of such sizes.
func named(kind int, sizes ...int) api.Entry {
	var names []string
	for i, n := range sizes {
		names = append(names, strings.Repeat("abcdefgh"[i:i+1], n))
	}
	return api.Entry{Path: strings.Join(names, "/"), Kind: kind}
}

// P9.1: names that are parted, and where.
func TestWriteParted(t *testing.T) {
	for _, c := range []struct {
		e            api.Entry
		prefix, name int
	}{
		{named(api.Reg, 100), 0, 100},
		{named(api.Dir, 99), 0, 100},
		{named(api.Reg, 50, 49), 0, 100},
		{named(api.Reg, 50, 50), 50, 50},
		{named(api.Reg, 1, 99), 1, 99},
		{named(api.Reg, 1, 100), 1, 100},
		{named(api.Dir, 1, 98), 1, 99},
		{named(api.Dir, 1, 99), 1, 100},
		{named(api.Reg, 20, 30, 100), 51, 100},
		{named(api.Reg, 20, 30, 99), 51, 99},
		{named(api.Reg, 20, 50, 30), 20, 81},
		{named(api.Dir, 20, 50, 30), 20, 82},
		{named(api.Reg, 60, 60, 60), 121, 60},
		{named(api.Reg, 99, 100), 99, 100},
		{named(api.Dir, 99, 99), 99, 100},
		{named(api.Reg, 100, 99), 100, 99},
		{named(api.Reg, 155, 44), 155, 44},
		{named(api.Dir, 155, 44), 155, 45},
		{named(api.Dir, 154, 1), 154, 2},
		{named(api.Reg, 98, 1, 99), 100, 99},
		{named(api.Reg, 10, 88, 100), 99, 100},
		{named(api.Reg, 155, 1, 1, 40), 155, 44},
	} {
		name := modelName(c.e)
		m := modelHead(c.e)
		m.prefix, m.name = "", name[len(name)-c.name:]
		if c.prefix > 0 {
			m.prefix = name[:c.prefix]
		}
		checkWrite(t, tar.Ustar, archiveOf(m), c.e)
		checkWrite(t, tar.Pax, archiveOf(m), c.e)
	}
}

// P9.1: names that don't part, and links without room: of the style Ustar there is no archive, of the others they stand ahead.
func TestWriteLong(t *testing.T) {
	l200 := strings.Repeat("l", 200)
	hardOf := func(file api.Entry, path string) []api.Entry {
		return []api.Entry{file, {Path: path, Kind: api.Hard, Link: file.Path}}
	}
	for _, l := range [][]api.Entry{
		{named(api.Reg, 101)},
		{named(api.Reg, 200)},
		{named(api.Dir, 100)},
		{named(api.Dir, 200)},
		{named(api.Reg, 1, 101)},
		{named(api.Dir, 1, 100)},
		{named(api.Reg, 156, 43)},
		{named(api.Dir, 156, 43)},
		{named(api.Reg, 10, 145, 43), named(api.Reg, 99, 101)},
		{named(api.Dir, 10, 100)},
		{named(api.Dir, 10, 10, 100)},
		{{Path: "a", Kind: api.Link, Link: l200}},
		{{Path: "a", Kind: api.Link, Link: l200[:101]}},
		{{Path: "a", Kind: api.Link, Link: l200[:60] + "/" + l200[:60]}},
		{{Path: l200, Kind: api.Link, Link: l200[1:]}},
		{{Path: l200[:90] + "/" + l200[:90], Kind: api.Link, Link: l200[1:]}},
		hardOf(named(api.Reg, 60, 60), "h"),
		hardOf(named(api.Reg, 200), "h"),
		hardOf(named(api.Reg, 200), "h"+l200[1:]),
	} {
		checkNotWritten(t, "long", l, tar.Ustar, api.ErrName)
		checkNotWritten(t, "long, behind others", append([]api.Entry{{Path: "d", Kind: api.Dir}}, l...), tar.Ustar, api.ErrName)
		for style := range 3 {
			checkWriteModel(t, l, style)
			checkWriteModel(t, append(l, api.Entry{Path: "behind", Kind: api.Link, Link: "x"}), style)
		}
	}
}

// P9.1: the heads of long texts, byte by byte.
func TestWriteHeadsAhead(t *testing.T) {
	n120, l110 := strings.Repeat("n", 120), strings.Repeat("l", 110)
	x := api.Entry{Path: n120, Kind: api.Link, Mode: 0o777, Uid: 1, Gid: 2, Mtime: 3, Owner: "root", Group: "root", Link: l110}
	name, link, head := rawOf("L", "././@LongLink", n120+"\x00"), rawOf("K", "././@LongLink", l110+"\x00"), rawOf("2", n120[:100], "")
	head.mode, head.uid, head.gid, head.mtime = "0000777\x00", "0000001\x00", "0000002\x00", "00000000003\x00"
	head.owner, head.group, head.link = "root", "root", l110[:100]
	pax := archiveOf(rawOf("x", "PaxHeaders", "130 path="+n120+"\n124 linkpath="+l110+"\n"), head)
	checkWrite(t, tar.Pax, pax, x)
	name.magic, link.magic, head.magic = gnu, gnu, gnu
	checkWrite(t, tar.Gnu, archiveOf(name, link, head), x)
	d := api.Entry{Path: n120, Kind: api.Dir}
	head = rawOf("5", n120[:100], "")
	checkWrite(t, tar.Pax, archiveOf(rawOf("x", "PaxHeaders", "131 path="+n120+"/\n"), head), d)
	name, head.magic = rawOf("L", "././@LongLink", n120+"/\x00"), gnu
	name.magic = gnu
	checkWrite(t, tar.Gnu, archiveOf(name, head), d)
	// A name that parts stands in the two fields, beside a record of the link.
	p := api.Entry{Path: n120[:60] + "/" + n120[:60], Kind: api.Link, Link: l110}
	head = rawOf("2", n120[:60], "")
	head.prefix, head.link = n120[:60], l110[:100]
	checkWrite(t, tar.Pax, archiveOf(rawOf("x", "PaxHeaders", "124 linkpath="+l110+"\n"), head), p)
	// A text of exactly 100 bytes stands in its field, without a byte 00.
	e := api.Entry{Path: n120[:100], Kind: api.Link, Link: l110[:100]}
	head = rawOf("2", n120[:100], "")
	head.link = l110[:100]
	checkWrite(t, tar.Ustar, archiveOf(head), e)
	checkWrite(t, tar.Pax, archiveOf(head), e)
	head.magic = gnu
	checkWrite(t, tar.Gnu, archiveOf(head), e)
}

// P9.1, P9.3: names of each length with a / at each place, and links of each length.
func TestWriteEachLength(t *testing.T) {
	came := map[api.Errno]int{}
	for n := 3; n <= 200; n++ {
		for at := 1; at < n-1; at++ {
			x := named(api.Reg+at%2, at, n-at-1)
			for style := range 3 {
				came[checkWriteModel(t, []api.Entry{x}, style)]++
			}
		}
		two := named(api.Reg+n%2, n)
		link := api.Entry{Path: "l", Kind: api.Link, Link: strings.Repeat("l", n)}
		hard := api.Entry{Path: "h", Kind: api.Hard, Link: strings.Repeat("a", n)}
		for style := range 3 {
			came[checkWriteModel(t, []api.Entry{two}, style)]++
			came[checkWriteModel(t, []api.Entry{link}, style)]++
			came[checkWriteModel(t, []api.Entry{named(api.Reg, n), hard}, style)]++
		}
	}
	checkCame(t, came, 100, api.OK, api.ErrName)
}

// P9.1: the style is asked first, then the list, then the lengths.
func TestWriteOrder(t *testing.T) {
	long := []api.Entry{named(api.Reg, 150)}
	wrong := []struct {
		l    []api.Entry
		code api.Errno
	}{
		{[]api.Entry{{Path: "/", Kind: api.Reg}}, api.ErrName},
		{[]api.Entry{{Path: "a", Kind: 5}}, api.ErrKind},
		{[]api.Entry{{Path: "a", Kind: api.Reg, Mode: -1}}, api.ErrArg},
		{[]api.Entry{{Path: "a", Kind: api.Reg, Mtime: math.MaxInt}}, api.ErrArg},
		{[]api.Entry{{Path: "a", Kind: api.Reg, Data: make([]byte, api.MaxData+1)}}, api.ErrLarge},
		{[]api.Entry{{Path: "a", Kind: api.Reg}, {Path: "a", Kind: api.Reg}}, api.ErrThere},
		{[]api.Entry{{Path: "a", Kind: api.Hard, Link: "b"}}, api.ErrOrder},
		{[]api.Entry{{Path: "a", Kind: api.Reg}, {Path: "a/b", Kind: api.Reg}}, api.ErrKind},
		{make([]api.Entry, api.MaxEntries+1), api.ErrLarge},
	}
	for _, style := range []int{-1, 3, 4, math.MinInt, math.MaxInt, 256, -255} {
		checkNotWritten(t, "no style", nil, style, api.ErrArg)
		checkNotWritten(t, "no style", long, style, api.ErrArg)
		for _, w := range wrong {
			checkNotWritten(t, "no style", w.l, style, api.ErrArg)
		}
	}
	for style := range 3 {
		for _, w := range wrong {
			checkNotWritten(t, "wrong", w.l, style, w.code)
			checkNotWritten(t, "wrong, behind a long name", append(long[:1:1], w.l...), style, w.code)
		}
	}
}

// many is so many entries.
func many(n int) []api.Entry {
	l := make([]api.Entry, n)
	for i := range l {
		l[i] = api.Entry{Path: "d" + strings.Repeat("x", i%7) + string(rune('a'+i/7%26)) + string(rune('a'+i/182)), Kind: api.Reg + i%2}
	}
	return l
}

// P9.1, P9.3: as many entries as a list may have.
func TestWriteMost(t *testing.T) {
	for style := range 3 {
		checkWriteModel(t, many(api.MaxEntries), style)
		checkNotWritten(t, "one more", many(api.MaxEntries+1), style, api.ErrLarge)
	}
}

// P9.1: each number up to its limit, each byte in each text.
func TestWriteEachValue(t *testing.T) {
	for style := range 3 {
		for i, most := range []int{api.MaxMode, api.MaxId, api.MaxId, api.MaxTime} {
			for n := 1; n <= most; n *= 2 {
				for _, m := range []int{n - 1, n, most - n} {
					x := api.Entry{Path: "a", Kind: api.Reg}
					*[]*int{&x.Mode, &x.Uid, &x.Gid, &x.Mtime}[i] = m
					if checkWriteModel(t, []api.Entry{x}, style) != api.OK {
						t.Errorf("%d of number %d", m, i)
					}
				}
			}
		}
		for v := range 256 {
			s := string([]byte{'a', byte(v), 'b'})
			long := strings.Repeat(s, 50)
			for _, x := range []api.Entry{{Path: s, Kind: api.Reg}, {Path: "a", Kind: api.Reg, Owner: s}, {Path: "a", Kind: api.Reg, Group: s}, {Path: "a", Kind: api.Link, Link: s}, {Path: long, Kind: api.Dir}, {Path: "a", Kind: api.Link, Link: long}} {
				checkWriteModel(t, []api.Entry{x}, style)
			}
		}
	}
}

// someEntry is an entry of any fields, mostly right.
func someEntry(random *rand.Rand, ahead []api.Entry) api.Entry {
	pick := func(l ...int) int { return l[random.IntN(len(l))] }
	text := func(n int) string {
		b := make([]byte, n)
		for i := range b {
			b[i] = "ab=1 x.\n\xff/"[random.IntN(10)]
		}
		return string(b)
	}
	x := api.Entry{Path: "p" + strings.ReplaceAll(text(pick(1, 2, 5, 90, 99, 100, 101, 150, 199)), "/", "/p"), Kind: pick(1, 1, 2, 3, 4)}
	x.Path = strings.TrimRight(x.Path[:min(len(x.Path), 200)], "/")
	x.Mode, x.Uid, x.Gid = pick(0, 0o644, 0o755, api.MaxMode), pick(0, 1000, api.MaxId), pick(0, 1000, api.MaxId)
	x.Mtime = pick(0, 1, api.MaxTime)
	x.Owner, x.Group = strings.Repeat("o", pick(0, 4, 31)), strings.Repeat("\xff", pick(0, 1, 31))
	switch x.Kind {
	case api.Reg:
		x.Data = someBytes(pick(0, 1, 500, 512, 513, 1024))
	case api.Link:
		x.Link = "l" + strings.ReplaceAll(text(pick(1, 5, 99, 100, 150, 199)), "\n", "n")
	case api.Hard:
		x.Kind, x.Data = api.Reg, nil
		for _, file := range ahead {
			if file.Kind == api.Reg {
				path := x.Path
				x = file
				x.Path, x.Kind, x.Link, x.Data = path, api.Hard, file.Path, nil
			}
		}
	}
	switch random.IntN(90) {
	case 0:
		x.Path += "//"
	case 1:
		x.Mode = -1
	case 2:
		x.Owner += ":"
	case 3:
		x.Kind = 0
	}
	return x
}

// P9.1, P9.3: lists of anything, in each style.
func TestWriteSomething(t *testing.T) {
	random := rand.New(rand.NewPCG(9, 1))
	came := map[api.Errno]int{}
	for range 4000 {
		var l []api.Entry
		for range random.IntN(7) {
			l = append(l, someEntry(random, l))
		}
		for style := range 3 {
			came[checkWriteModel(t, l, style)]++
		}
	}
	checkCame(t, came, 20, api.OK, api.ErrName, api.ErrKind, api.ErrArg, api.ErrThere)
}
