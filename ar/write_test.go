package ar_test

import (
	"math"
	"math/rand/v2"
	"slices"
	"strings"
	"testing"

	"drayage/api"
	"drayage/ar"
)

// checkWrite holds an archive against what it should be, and reads it.
func checkWrite(t *testing.T, style int, want string, l ...api.Item) {
	t.Helper()
	b, e := ar.Write(l, style)
	if string(b) != want || e != api.OK {
		t.Errorf("style %d: %q %d, not %q", style, b, e, want)
	}
	checkRead(t, want, l...)
}

// checkNotWritten asks for an archive that there isn't.
func checkNotWritten(t *testing.T, what string, l []api.Item, style int, want api.Errno) {
	t.Helper()
	b, e := ar.Write(l, style)
	if len(b) != 0 || e != want {
		t.Errorf("%s, style %d: %d bytes, %d, not %d", what, style, len(b), e, want)
	}
}

// P8.1: the chapter's example, and the three numbers of the styles.
func TestWriteExample(t *testing.T) {
	x := api.Item{Name: "a", Mtime: 1, Mode: 0o100, Data: []byte("x")}
	fields := "1           0     0     100     1         \x60\nx\n"
	checkWrite(t, 0, "!<arch>\na               "+fields, x)
	checkWrite(t, 1, "!<arch>\na/              "+fields, x)
	checkWrite(t, 2, "!<arch>\na               "+fields, x)
	if ar.Common != 0 || ar.Gnu != 1 || ar.Bsd != 2 {
		t.Errorf("%d %d %d", ar.Common, ar.Gnu, ar.Bsd)
	}
}

// P8.1: no items, in each style.
func TestWriteNothing(t *testing.T) {
	for style := range 3 {
		checkWrite(t, style, "!<arch>\n")
		checkWrite(t, style, "!<arch>\n", []api.Item{}...)
	}
}

// P8.1: each field at its place, filled up with blanks, or full.
func TestWriteFields(t *testing.T) {
	for style, name := range []string{"ab              ", "ab/             ", "ab              "} {
		checkWrite(t, style, magic+name+"8589934591  9999991234567777    0         \x60\n",
			api.Item{Name: "ab", Mtime: 8589934591, Uid: 999999, Gid: 123456, Mode: 0o7777})
		checkWrite(t, style, magic+name+"12          3     45    6       2         \x60\n\x00\xff",
			api.Item{Name: "ab", Mtime: 12, Uid: 3, Gid: 45, Mode: 6, Data: []byte("\x00\xff")})
		checkWrite(t, style, magic+name+"0           0     0     0       3         \x60\n\n\n\n\n",
			api.Item{Name: "ab", Data: []byte("\n\n\n")})
		checkWrite(t, style, magic+name+"0           0     0     10      0         \x60\n"+name+"0           0     0     644     1         \x60\n!\n",
			api.Item{Name: "ab", Mode: 8}, api.Item{Name: "ab", Mode: 0o644, Data: []byte("!")})
	}
}

// rest is what stands in a head behind the name, of an item without numbers.
func rest(size string) string {
	return "0           0     0     0       " + (size + "          ")[:10] + "\x60\n"
}

// P8.1: names with and without room, in each style.
func TestWriteNames(t *testing.T) {
	n15, n16, n17, n200 := strings.Repeat("n", 15), strings.Repeat("n", 16), strings.Repeat("n", 17), strings.Repeat("n", 200)
	of := func(name string) api.Item { return api.Item{Name: name, Data: []byte("data")} }
	four := rest("4") + "data"
	checkWrite(t, 0, magic+n15+" "+four, of(n15))
	checkWrite(t, 0, magic+n16+four, of(n16))
	checkWrite(t, 0, magic+"b c             "+four, of("b c"))
	checkWrite(t, 0, magic+"#1              "+four, of("#1"))
	checkWrite(t, 0, magic+"#               "+four, of("#"))

	table := "//                                              "
	checkWrite(t, 1, magic+n15+"/"+four, of(n15))
	checkWrite(t, 1, magic+table+"18        \x60\n"+n16+"/\n/0              "+four, of(n16))
	checkWrite(t, 1, magic+table+"202       \x60\n"+n200+"/\n/0              "+four, of(n200))
	checkWrite(t, 1, magic+"b c/            "+four, of("b c"))
	checkWrite(t, 1, magic+"#/              "+four, of("#"))
	checkWrite(t, 1, magic+"#1x/            "+four, of("#1x"))
	checkWrite(t, 1, magic+"#2/             "+four, of("#2"))
	checkWrite(t, 1, magic+"1#1/            "+four, of("1#1"))

	checkWrite(t, 2, magic+n15+" "+four, of(n15))
	checkWrite(t, 2, magic+n16+four, of(n16))
	checkWrite(t, 2, magic+"#1/17           "+rest("21")+n17+"data\n", of(n17))
	checkWrite(t, 2, magic+"#1/200          "+rest("204")+n200+"data", of(n200))
	checkWrite(t, 2, magic+"#1/3            "+rest("7")+"b cdata\n", of("b c"))
	checkWrite(t, 2, magic+"#1/16           "+rest("20")+n15[:7]+" "+n15[:8]+"data", of(n15[:7]+" "+n15[:8]))
	checkWrite(t, 2, magic+"#1              "+four, of("#1"))
	checkWrite(t, 2, magic+"\t               "+four, of("\t"))
}

// P8.1: the name #1 stands in the table, alone and among others, and so does each name each time that it comes.
func TestWriteTable(t *testing.T) {
	head := "//                                              "
	checkWrite(t, 1, magic+head+"4         \x60\n#1/\n/0              "+rest("0"), api.Item{Name: "#1"})
	long, longer := "a name of more bytes", "a name of even more bytes"
	table := long + "/\n#1/\n" + longer + "/\n" + long + "/\n#1/\n"
	checkWrite(t, 1, magic+head+"79        \x60\n"+table+"\n"+
		"short/          "+rest("0")+
		"/0              "+rest("1")+"1\n"+
		"/22             "+rest("2")+"22"+
		"short/          "+rest("1")+"3\n"+
		"/26             "+rest("0")+
		"/53             "+rest("0")+
		"/75             "+rest("1")+"7\n",
		api.Item{Name: "short"}, api.Item{Name: long, Data: []byte("1")}, api.Item{Name: "#1", Data: []byte("22")},
		api.Item{Name: "short", Data: []byte("3")}, api.Item{Name: longer}, api.Item{Name: long}, api.Item{Name: "#1", Data: []byte("7")})
}

// P8.1: what is wrong with the whole is asked first, then the items, then the lengths of names.
func TestWriteErrors(t *testing.T) {
	right, long := api.Item{Name: "a"}, api.Item{Name: strings.Repeat("n", 17)}
	nameless, numbers, large := api.Item{}, api.Item{Name: "a", Uid: -1}, api.Item{Name: "a", Data: make([]byte, api.MaxData+1)}
	many := slices.Repeat([]api.Item{right}, api.MaxEntries+1)
	for _, style := range []int{-1, 3, 4, math.MinInt, math.MaxInt, -1 << 32, 1 << 32, 1<<32 + 1} {
		for _, l := range [][]api.Item{nil, {right}, {nameless}, {numbers}, {large}, {long}, many} {
			checkNotWritten(t, "no style", l, style, api.ErrArg)
		}
	}
	for style := range 3 {
		checkNotWritten(t, "too many", many, style, api.ErrLarge)
		for _, x := range []api.Item{nameless, numbers, large, long} {
			some := slices.Clone(many)
			some[0] = x
			checkNotWritten(t, "too many ahead of what is wrong with one", some, style, api.ErrLarge)
		}
		for i, x := range []api.Item{nameless, numbers, large} {
			want := []api.Errno{api.ErrName, api.ErrArg, api.ErrLarge}[i]
			checkNotWritten(t, "wrong", []api.Item{x}, style, want)
			checkNotWritten(t, "wrong", []api.Item{right, right, x}, style, want)
			checkNotWritten(t, "wrong ahead of a long name", []api.Item{long, right, x}, style, want)
			for _, y := range []api.Item{nameless, numbers, large} {
				checkNotWritten(t, "the first that is wrong", []api.Item{right, x, y, long}, style, want)
			}
			last := slices.Clone(many[:api.MaxEntries])
			last[len(last)-1] = x
			checkNotWritten(t, "the last is wrong", last, style, want)
		}
	}
	checkNotWritten(t, "a long name", []api.Item{long}, 0, api.ErrName)
	checkNotWritten(t, "a long name", []api.Item{right, right, long}, 0, api.ErrName)
	checkNotWritten(t, "a long name", []api.Item{long, right}, 0, api.ErrName)
	checkNotWritten(t, "a longer name", []api.Item{{Name: strings.Repeat("n", 200)}}, 0, api.ErrName)
	checkNotWritten(t, "a long name with blanks", []api.Item{{Name: "nnnnnnnn nnnnnnnn"}}, 0, api.ErrName)
}

// P8.1, P8.3: as many items as there may be, in each style, with names that have room and that haven't.
func TestWriteMostItems(t *testing.T) {
	l := make([]api.Item, api.MaxEntries)
	for i := range l {
		l[i] = api.Item{Name: "n" + strings.Repeat(" n", i%8), Mtime: i, Data: make([]byte, i%3)}
	}
	for style := range 3 {
		checkWriteModel(t, l, style)
		checkWriteModel(t, l[:len(l)-1], style)
	}
	for i := range l {
		l[i].Name = strings.Repeat("n", 1+(i*7)%200)
	}
	checkWriteModel(t, l, 1)
	checkWriteModel(t, l, 2)
	for i := range l {
		l[i].Name = strings.Repeat("n", 200)
	}
	checkWriteModel(t, l, 1)
	checkWriteModel(t, l, 2)
}

// P8.1, P8.3: all short names, and names of each byte and length, in each style.
func TestWriteEachName(t *testing.T) {
	for _, name := range texts("a#1 /\n\x00", 4) {
		for style := range 3 {
			checkWriteModel(t, []api.Item{{Name: name, Data: []byte("x")}}, style)
		}
	}
	for n := range 203 {
		for _, name := range []string{strings.Repeat("n", n), "a" + strings.Repeat(" ", max(n-2, 0)) + "a", strings.Repeat("#1", n/2), strings.Repeat("\xff", n)} {
			for style := range 3 {
				checkWriteModel(t, []api.Item{{Name: "b"}, {Name: name, Data: []byte("x")}, {Name: name}}, style)
			}
		}
	}
	for v := range 256 {
		name := string([]byte{'a', byte(v), 'b'})
		for style := range 3 {
			checkWriteModel(t, []api.Item{{Name: name}, {Name: name + "and some more bytes"}}, style)
		}
	}
}

// P8.1, P8.3: each size up to some, each number of digits.
func TestWriteEachSize(t *testing.T) {
	for n := range 300 {
		for style := range 3 {
			checkWriteModel(t, []api.Item{{Name: "a", Data: someBytes(n)}, {Name: "b c", Data: someBytes(n + 1)}}, style)
		}
	}
	for i, most := range []int{8589934591, 999999, 999999, 4095} {
		for n := 1; n <= most; n *= 2 {
			for _, m := range []int{n - 1, n} {
				for style := range 3 {
					checkWriteModel(t, []api.Item{withNumber(i, m)}, style)
				}
			}
		}
		for n := 10; n <= most; n *= 10 {
			for _, m := range []int{n - 1, n} {
				for style := range 3 {
					checkWriteModel(t, []api.Item{withNumber(i, m)}, style)
				}
			}
		}
	}
	for mode := range api.MaxMode + 1 {
		checkWriteModel(t, []api.Item{withNumber(3, mode)}, ar.Common)
	}
}

// someBytes is so many bytes, of each kind, and others each time.
func someBytes(n int) []byte {
	random := rand.New(rand.NewPCG(8, uint64(n)))
	b := make([]byte, n)
	for i := range b {
		b[i] = byte(random.UintN(256))
	}
	return b
}

// someItem is an item of any name, numbers and bytes, mostly right.
func someItem(random *rand.Rand) api.Item {
	pick := func(l ...int) int { return l[random.IntN(len(l))] }
	name := ""
	for range pick(1, 2, 3, 14, 15, 16, 17, 30, 199, 200) {
		at := random.IntN(8)
		name += "ab#1. \xff\t"[at : at+1]
	}
	x := api.Item{Name: strings.Trim(name, " "), Data: someBytes(random.IntN(9))}
	x.Mtime = pick(0, 1, 99, api.MaxTime)
	x.Uid = pick(0, 1, 1000, 999999)
	x.Gid = pick(0, 1, 1000, 999999)
	x.Mode = pick(0, 0o644, 0o755, api.MaxMode)
	switch random.IntN(60) {
	case 0:
		x.Name = ""
	case 1:
		x.Name += "/"
	case 2:
		x.Mode = -1
	case 3:
		x.Uid = 1000000
	}
	return x
}

// P8.1, P8.3: lists of anything, in each style.
func TestWriteSomething(t *testing.T) {
	random := rand.New(rand.NewPCG(8, 1))
	for range 5000 {
		l := make([]api.Item, random.IntN(9))
		for i := range l {
			l[i] = someItem(random)
		}
		for style := range 3 {
			checkWriteModel(t, l, style)
		}
	}
}
