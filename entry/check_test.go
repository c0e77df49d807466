package entry_test

import (
	"bytes"
	"math"
	"math/rand/v2"
	"strings"
	"testing"

	"drayage/api"
	"drayage/entry"
)

// of is an entry of a kind, and all that it may have.
func of(kind int) api.Entry {
	e := api.Entry{Path: "usr/x", Kind: kind, Mode: 0755, Uid: 1, Gid: 2, Owner: "root", Group: "staff", Mtime: 3}
	switch kind {
	case api.Reg:
		e.Data = []byte("data")
	case api.Link:
		e.Link = "../lib/y"
	case api.Hard:
		e.Link = "usr/y"
	}
	return e
}

func kinds() []int {
	return []int{api.Reg, api.Dir, api.Link, api.Hard}
}

// checkError is what the chapter says of an entry, in its order.
func checkError(e api.Entry) api.Errno {
	if !isPath(e.Path) {
		return api.ErrName
	}
	if e.Kind != 1 && e.Kind != 2 && e.Kind != 3 && e.Kind != 4 {
		return api.ErrKind
	}
	if e.Mode < 0 || e.Mode > 07777 || e.Uid < 0 || e.Uid > 2097151 || e.Gid < 0 || e.Gid > 2097151 || e.Mtime < 0 || e.Mtime > 8589934591 {
		return api.ErrArg
	}
	for _, name := range []string{e.Owner, e.Group} {
		if len(name) > 31 || strings.Contains(name, "\x00") || strings.Contains(name, "\n") || strings.Contains(name, ":") {
			return api.ErrName
		}
	}
	if e.Kind == 3 && (len(e.Link) < 1 || len(e.Link) > 200 || strings.Contains(e.Link, "\x00") || strings.Contains(e.Link, "\n")) {
		return api.ErrName
	}
	if e.Kind == 4 && (!isPath(e.Link) || e.Link == e.Path) {
		return api.ErrName
	}
	if e.Kind < 3 && len(e.Link) > 0 || e.Kind > 1 && len(e.Data) > 0 {
		return api.ErrArg
	}
	if len(e.Data) > 1048576 {
		return api.ErrLarge
	}
	return api.OK
}

// checkEntry holds what Check says against what it should, alone and in a list.
func checkEntry(t *testing.T, what string, e api.Entry, want api.Errno) {
	t.Helper()
	if got := entry.Check(e); got != want {
		t.Errorf("%s: %d, not %d", what, got, want)
	}
	if model := checkError(e); model != want {
		t.Fatalf("%s: the model says %d, not %d", what, model, want)
	}
	if at, code := entry.CheckAll([]api.Entry{{Path: "other", Kind: api.Dir}, e}); want != api.OK && (at != 1 || code != want) {
		t.Errorf("%s, in a list: %d %d", what, at, code)
	}
}

// P7.2: entries with which nothing is wrong, at all their edges.
func TestRightEntries(t *testing.T) {
	longest := strings.Repeat("x", 200)
	owner := strings.Repeat("o", 31)
	for _, kind := range kinds() {
		e := of(kind)
		checkEntry(t, "right", e, api.OK)
		least := api.Entry{Path: "x", Kind: kind, Link: e.Link}
		checkEntry(t, "noughts", least, api.OK)
		least.Data = []byte{}
		checkEntry(t, "data without bytes", least, api.OK)
		e.Path, e.Mode, e.Uid, e.Gid, e.Mtime, e.Owner, e.Group = longest, 4095, 2097151, 2097151, 8589934591, owner, owner
		checkEntry(t, "greatest", e, api.OK)
		e.Path, e.Owner, e.Group = "a\nb:c/...", " \xff/\t", "\r;"
		checkEntry(t, "odd bytes", e, api.OK)
	}
	for _, s := range []string{"x", "/", "/etc/x", "../..", ".", "..", "a//b", "usr/x", "a/", longest, ":", "\xff", " "} {
		e := of(api.Link)
		e.Link = s
		checkEntry(t, "link to "+s, e, api.OK)
	}
	for _, s := range []string{"x", "usr", "usr/x/y", "usr/x ", "usr/X", "usr/y", longest, "a\nb", ":", "..."} {
		e := of(api.Hard)
		e.Link = s
		checkEntry(t, "hard link to "+s, e, api.OK)
	}
	for _, n := range []int{0, 1, 1000, 1<<20 - 1, 1 << 20} {
		e := of(api.Reg)
		e.Data = make([]byte, n)
		checkEntry(t, "data", e, api.OK)
	}
}

// P7.2: paths that are none.
func TestEntryPaths(t *testing.T) {
	for _, kind := range kinds() {
		for _, s := range []string{"", "/", "/usr", "usr/", "a//b", ".", "a/..", "x\x00", strings.Repeat("x", 201)} {
			e := of(kind)
			e.Path = s
			checkEntry(t, "path "+s, e, api.ErrName)
		}
	}
}

// P7.2: kinds that are none.
func TestEntryKinds(t *testing.T) {
	for _, kind := range []int{0, 5, 6, -1, -2, -3, -4, 257, 1 << 32, 1<<32 + 1, math.MinInt, math.MaxInt} {
		for _, e := range []api.Entry{of(api.Reg), of(api.Dir), of(api.Link), of(api.Hard)} {
			e.Kind = kind
			checkEntry(t, "kind", e, api.ErrKind)
		}
	}
}

// P7.2: numbers that are too small and too great.
func TestEntryNumbers(t *testing.T) {
	for _, kind := range kinds() {
		e := of(kind)
		for _, c := range []struct {
			what  string
			field *int
			most  int
		}{{"mode", &e.Mode, 4095}, {"uid", &e.Uid, 2097151}, {"gid", &e.Gid, 2097151}, {"mtime", &e.Mtime, 8589934591}} {
			was := *c.field
			for _, n := range []int{0, 1, c.most - 1, c.most} {
				*c.field = n
				checkEntry(t, c.what, e, api.OK)
			}
			for _, n := range []int{-1, -c.most, c.most + 1, c.most * 2, 1 << 40, 1<<62 + 1, math.MinInt, math.MaxInt} {
				*c.field = n
				checkEntry(t, c.what, e, api.ErrArg)
			}
			*c.field = was
		}
	}
}

// P7.2: owners' names.
func TestEntryOwners(t *testing.T) {
	for _, kind := range kinds() {
		e := of(kind)
		for _, field := range []*string{&e.Owner, &e.Group} {
			was := *field
			for n := range 70 {
				*field = strings.Repeat("x", n)
				want := api.OK
				if n > 31 {
					want = api.ErrName
				}
				checkEntry(t, "owner's length", e, want)
			}
			*field = strings.Repeat("x", 1<<16)
			checkEntry(t, "owner's length", e, api.ErrName)
			for v := range 256 {
				want := api.OK
				if v == 0 || v == '\n' || v == ':' {
					want = api.ErrName
				}
				c := string([]byte{byte(v)})
				for _, *field = range []string{c, "x" + c, c + "x", "x" + c + "x", strings.Repeat("x", 30) + c} {
					checkEntry(t, "owner's byte", e, want)
				}
			}
			*field = was
		}
	}
}

// P7.2: what links point to.
func TestEntryLinks(t *testing.T) {
	e := of(api.Link)
	for n := range 420 {
		e.Link = strings.Repeat("/", n)
		want := api.OK
		if n < 1 || n > 200 {
			want = api.ErrName
		}
		checkEntry(t, "link's length", e, want)
	}
	for v := range 256 {
		want := api.OK
		if v == 0 || v == '\n' {
			want = api.ErrName
		}
		c := string([]byte{byte(v)})
		for _, e.Link = range []string{c, "x" + c, c + "x", "x" + c + "x", strings.Repeat("x", 199) + c} {
			checkEntry(t, "link's byte", e, want)
		}
	}
	e = of(api.Hard)
	for _, e.Link = range []string{"", "usr/x", "/usr/y", "usr/y/", "a//b", "..", "../y", "y\x00", strings.Repeat("x", 201)} {
		checkEntry(t, "hard link to "+e.Link, e, api.ErrName)
	}
	for _, s := range texts("a/.\x00", 5) {
		e.Link = s
		want := api.OK
		if !isPath(s) {
			want = api.ErrName
		}
		checkEntry(t, "hard link to "+s, e, want)
		if e.Path = s; isPath(s) {
			checkEntry(t, "hard link to itself", e, api.ErrName)
		}
		e.Path = "usr/x"
	}
}

// P7.2: what a kind doesn't have.
func TestEntryHasMore(t *testing.T) {
	for _, kind := range kinds() {
		e := of(kind)
		want := api.ErrArg
		if kind == api.Link || kind == api.Hard {
			want = api.OK
		}
		for _, e.Link = range []string{"x", "y/z", "..."} {
			checkEntry(t, "a link", e, want)
		}
		if kind == api.Reg || kind == api.Dir {
			for _, e.Link = range []string{"\x00", "\n", "/", e.Path, strings.Repeat("x", 201)} {
				checkEntry(t, "a link that is none", e, api.ErrArg)
			}
		}
		e = of(kind)
		want = api.ErrArg
		if kind == api.Reg {
			want = api.OK
		}
		for _, e.Data = range [][]byte{{0}, []byte("x"), make([]byte, 1<<20)} {
			checkEntry(t, "data", e, want)
		}
	}
}

// P7.2: too much data; of what isn't a file it is wrong that there is any.
func TestEntryData(t *testing.T) {
	for _, kind := range kinds() {
		want := api.ErrArg
		if kind == api.Reg {
			want = api.ErrLarge
		}
		for _, n := range []int{1<<20 + 1, 1<<20 + 2, 1 << 21} {
			e := of(kind)
			e.Data = make([]byte, n)
			checkEntry(t, "much data", e, want)
			if kind == api.Reg {
				e.Link = "x"
				checkEntry(t, "much data and a link", e, api.ErrArg)
			}
		}
	}
}

// spoiler makes something wrong with an entry.
type spoiler struct {
	what string
	do   func(*api.Entry)
	want api.Errno
}

// spoilers is what may be wrong with an entry of a kind, in the order in which it is looked for; but for the kind itself.
func spoilers(kind int) []spoiler {
	all := []spoiler{
		{"path", func(e *api.Entry) { e.Path = "/" }, api.ErrName},
		{"mode", func(e *api.Entry) { e.Mode = -1 }, api.ErrArg},
		{"uid", func(e *api.Entry) { e.Uid = 1 << 21 }, api.ErrArg},
		{"gid", func(e *api.Entry) { e.Gid = 1 << 21 }, api.ErrArg},
		{"mtime", func(e *api.Entry) { e.Mtime = 1 << 33 }, api.ErrArg},
		{"owner", func(e *api.Entry) { e.Owner = ":" }, api.ErrName},
		{"group", func(e *api.Entry) { e.Group = "\n" }, api.ErrName},
	}
	switch kind {
	case api.Reg:
		return append(all,
			spoiler{"link", func(e *api.Entry) { e.Link = "x" }, api.ErrArg},
			spoiler{"data", func(e *api.Entry) { e.Data = make([]byte, 1<<20+1) }, api.ErrLarge})
	case api.Dir:
		all = append(all, spoiler{"link", func(e *api.Entry) { e.Link = "x" }, api.ErrArg})
	default:
		all = append(all, spoiler{"link", func(e *api.Entry) { e.Link = "" }, api.ErrName})
	}
	return append(all,
		spoiler{"data", func(e *api.Entry) { e.Data = []byte("x") }, api.ErrArg},
		spoiler{"much data", func(e *api.Entry) { e.Data = make([]byte, 1<<20+1) }, api.ErrArg})
}

// P7.2: of several that are wrong, the first is told.
func TestEntryErrorsInOrder(t *testing.T) {
	for _, kind := range kinds() {
		all := spoilers(kind)
		for i, first := range all {
			e := of(kind)
			first.do(&e)
			checkEntry(t, first.what, e, first.want)
			e.Kind = 0
			want := api.ErrKind
			if first.what == "path" {
				want = api.ErrName
			}
			checkEntry(t, first.what+", and no kind", e, want)
			for _, second := range all[i+1:] {
				e := of(kind)
				second.do(&e)
				first.do(&e)
				checkEntry(t, first.what+", "+second.what, e, first.want)
			}
			for _, behind := range all[i+1:] {
				behind.do(&e)
			}
			e.Kind = kind
			checkEntry(t, first.what+" and all behind", e, first.want)
		}
	}
}

// oneOf is some text of these.
func oneOf(random *rand.Rand, all ...string) string {
	return all[random.IntN(len(all))]
}

// someEntry is an entry of anything.
func someEntry(random *rand.Rand) api.Entry {
	number := func(most int) int {
		if random.IntN(20) > 0 {
			return random.IntN(most + 1)
		}
		return []int{-1, most + 1, math.MinInt, math.MaxInt}[random.IntN(4)]
	}
	e := api.Entry{
		Path:  oneOf(random, "a", "b", "a/b", "a/b/c", "...", "x\n", "x:y", "a/", "", "a/../b"),
		Kind:  random.IntN(30),
		Mode:  number(4095),
		Uid:   number(2097151),
		Gid:   number(2097151),
		Mtime: number(8589934591),
		Owner: oneOf(random, "", "root", "x", "a b", "\xff", strings.Repeat("x", 31), strings.Repeat("x", 32), "a:b", "\n"),
		Group: oneOf(random, "", "root", "x", "/", "..", strings.Repeat("x", 31), strings.Repeat("x", 32), ":", "\x00"),
		Link:  oneOf(random, "", "", "a", "b", "a/b", "/", "..", "x\n", "x\x00", strings.Repeat("x", 200), strings.Repeat("x", 201)),
	}
	if e.Kind > 5 {
		e.Kind = e.Kind%4 + 1
	}
	if random.IntN(3) == 0 {
		e.Data = bytes.Repeat([]byte("x"), []int{0, 1, 9, 1 << 20, 1<<20 + 1}[random.IntN(5)])
	}
	return e
}

// P7.2: entries of anything.
func TestSomeEntries(t *testing.T) {
	random := rand.New(rand.NewPCG(7, 2))
	times := map[api.Errno]int{}
	for range 30000 {
		e := someEntry(random)
		want := checkError(e)
		times[want]++
		if got := entry.Check(e); got != want {
			e.Data = nil
			t.Errorf("%+v: %d, not %d", e, got, want)
		}
	}
	for _, want := range []api.Errno{api.OK, api.ErrName, api.ErrKind, api.ErrArg, api.ErrLarge} {
		if times[want] < 20 {
			t.Errorf("%d came %d times", want, times[want])
		}
	}
}
