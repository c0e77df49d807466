package entry_test

import (
	"math/rand/v2"
	"slices"
	"strconv"
	"strings"
	"testing"

	"drayage/api"
	"drayage/entry"
)

func reg(path string) api.Entry {
	return api.Entry{Path: path, Kind: api.Reg, Data: []byte("of " + path)}
}

func dir(path string) api.Entry {
	return api.Entry{Path: path, Kind: api.Dir}
}

func link(path, to string) api.Entry {
	return api.Entry{Path: path, Kind: api.Link, Link: to}
}

func hard(path, to string) api.Entry {
	return api.Entry{Path: path, Kind: api.Hard, Link: to}
}

func listOf(all ...api.Entry) []api.Entry {
	return all
}

// checkBoth holds a list against what is said of it and against the model.
func checkBoth(t *testing.T, l []api.Entry, at int, want api.Errno) {
	t.Helper()
	checkList(t, l, at, want)
	if got, code := listError(l); got != at || code != want {
		t.Fatalf("%s: the model says %d %d", told(l), got, code)
	}
}

// P7.3: lists that are right, in many orders.
func TestRightLists(t *testing.T) {
	for _, l := range [][]api.Entry{
		nil,
		{},
		listOf(reg("a")),
		listOf(dir("a")),
		listOf(link("a", "a")),
		listOf(reg("a"), reg("b")),
		listOf(reg("b"), reg("a"), reg("c")),
		listOf(reg("b"), hard("a", "b")),
		listOf(reg("b"), hard("a", "b"), hard("c", "b"), reg("d"), hard("e", "d"), hard("b2", "b")),
		listOf(dir("a"), reg("a/b")),
		listOf(reg("a/b"), dir("a")),
		listOf(reg("a/b/c"), dir("a"), dir("a/b")),
		listOf(reg("a/b/c"), dir("a/b"), dir("a")),
		listOf(dir("a"), reg("a/b/c"), link("a/d", "/x"), hard("a/b/e", "a/b/c")),
		listOf(reg("a"), reg("a-"), reg("a.b"), reg("a0"), reg("ab"), dir("b"), reg("b/a")),
		listOf(reg("ab/c"), reg("a"), reg("aa/b")),
		listOf(reg("b/a"), reg("a")),
		listOf(reg("x/a"), link("a", "x"), reg("y/x/a"), hard("y/a", "x/a")),
	} {
		checkBoth(t, l, 0, api.OK)
	}
}

// P7.3: the chapter's example, and others that are wrong.
func TestWrongLists(t *testing.T) {
	for _, c := range []struct {
		l    []api.Entry
		at   int
		want api.Errno
	}{
		{listOf(reg("a"), reg("a/b")), 1, api.ErrKind},
		{listOf(reg("a/b"), reg("a")), 1, api.ErrKind},
		{listOf(link("a", "b"), reg("a/b")), 1, api.ErrKind},
		{listOf(reg("a/b"), link("a", "b")), 1, api.ErrKind},
		{listOf(dir("a/b"), link("a", "b")), 1, api.ErrKind},
		{listOf(link("a", "b"), dir("a/b")), 1, api.ErrKind},
		{listOf(reg("b"), hard("a", "b"), reg("a/b")), 2, api.ErrKind},
		{listOf(reg("b"), reg("a/b"), hard("a", "b")), 2, api.ErrKind},
		{listOf(reg("a"), hard("a/b", "a")), 1, api.ErrKind},
		{listOf(reg("a/b"), hard("a", "a/b")), 1, api.ErrKind},
		{listOf(reg("a"), dir("a/b/c/d")), 1, api.ErrKind},
		{listOf(dir("a/b/c/d"), reg("a")), 1, api.ErrKind},
		{listOf(dir("a/b/c/d"), reg("a/b")), 1, api.ErrKind},
		{listOf(dir("a/b/c/d"), dir("a"), dir("a/b"), link("a/b/c", "d")), 3, api.ErrKind},
		{listOf(dir("a"), reg("a/b"), dir("a/b/c/d")), 2, api.ErrKind},
		{listOf(reg("a"), reg("b"), reg("a-"), reg("a/b")), 3, api.ErrKind},
		{listOf(reg("a"), reg("a")), 1, api.ErrThere},
		{listOf(dir("a"), dir("a")), 1, api.ErrThere},
		{listOf(dir("a"), reg("a/b"), dir("b"), link("a/b", "x")), 3, api.ErrThere},
		{listOf(reg("a"), hard("b", "a"), hard("b", "a")), 2, api.ErrThere},
		{listOf(hard("a", "b"), reg("b")), 0, api.ErrOrder},
		{listOf(hard("a", "b")), 0, api.ErrOrder},
		{listOf(dir("b"), hard("a", "b")), 1, api.ErrOrder},
		{listOf(link("b", "c"), hard("a", "b")), 1, api.ErrOrder},
		{listOf(reg("b"), hard("c", "b"), hard("a", "c")), 2, api.ErrOrder},
		{listOf(reg("b/c"), hard("a", "b")), 1, api.ErrOrder},
		{listOf(reg("b"), hard("a", "b/c")), 1, api.ErrOrder},
		{listOf(hard("a", "b"), hard("b", "a")), 0, api.ErrOrder},
	} {
		checkBoth(t, c.l, c.at, c.want)
	}
}

// rights is changes of what a hard link has in common with its file.
func rights() []func(*api.Entry) {
	return []func(*api.Entry){
		func(e *api.Entry) { e.Mode ^= 1 },
		func(e *api.Entry) { e.Uid ^= 1 << 20 },
		func(e *api.Entry) { e.Gid ^= 1 << 20 },
		func(e *api.Entry) { e.Owner += "x" },
		func(e *api.Entry) { e.Group += " " },
		func(e *api.Entry) { e.Mtime ^= 1 << 32 },
	}
}

// P7.3: a hard link has its file's rights, each of the six.
func TestHardRights(t *testing.T) {
	file := of(api.Reg)
	file.Path = "usr/y"
	checkBoth(t, listOf(file, of(api.Hard)), 0, api.OK)
	for _, change := range rights() {
		e := of(api.Hard)
		change(&e)
		checkBoth(t, listOf(file, e), 1, api.ErrArg)
		other := file
		change(&other)
		checkBoth(t, listOf(other, of(api.Hard)), 1, api.ErrArg)
		checkBoth(t, listOf(other, e), 0, api.OK)
		// Another file's are of no account.
		other.Path = "usr/z"
		checkBoth(t, listOf(other, file, of(api.Hard)), 0, api.OK)
		checkBoth(t, listOf(other, file, e), 2, api.ErrArg)
	}
	// An owner isn't a group.
	e := of(api.Hard)
	e.Owner, e.Group = e.Group, e.Owner
	checkBoth(t, listOf(file, e), 1, api.ErrArg)
	e = of(api.Hard)
	e.Uid, e.Gid = e.Gid, e.Uid
	checkBoth(t, listOf(file, e), 1, api.ErrArg)
}

// P7.3: of an entry, the first that is wrong is told.
func TestListErrorsInOrder(t *testing.T) {
	wrong := hard("a/b", "none")
	wrong.Mode = -1
	checkBoth(t, listOf(reg("a"), wrong), 1, api.ErrArg)
	checkBoth(t, listOf(reg("a/c"), link("a/b", "x"), wrong), 2, api.ErrArg)
	// There, ahead of what is a hard link's, ahead of what stands above.
	checkBoth(t, listOf(reg("b"), hard("b", "none")), 1, api.ErrThere)
	other := hard("c", "b")
	other.Mode = 1
	checkBoth(t, listOf(reg("b"), reg("c"), other), 2, api.ErrThere)
	checkBoth(t, listOf(reg("a"), hard("a/b", "none")), 1, api.ErrOrder)
	checkBoth(t, listOf(reg("a/b"), hard("a", "none")), 1, api.ErrOrder)
	other = hard("a/b", "a")
	other.Mode = 1
	checkBoth(t, listOf(reg("a"), other), 1, api.ErrArg)
	other = hard("a", "a/b")
	other.Mode = 1
	checkBoth(t, listOf(reg("a/b"), other), 1, api.ErrArg)
}

// P7.3: of a list, the first entry that is at fault is told.
func TestFirstFaultOfList(t *testing.T) {
	wrong := listOf(reg("/"), reg("a"), hard("c", "none"), reg("a/b"), api.Entry{Path: "d"})
	codes := []api.Errno{api.ErrName, api.ErrThere, api.ErrOrder, api.ErrKind, api.ErrKind}
	for _, right := range [][]api.Entry{listOf(reg("a")), listOf(dir("x"), reg("a"), reg("y/z"))} {
		for i, first := range wrong {
			checkBoth(t, append(slices.Clip(right), first), len(right), codes[i])
			for _, second := range wrong {
				checkBoth(t, append(slices.Clip(right), first, second), len(right), codes[i])
				checkBoth(t, append(slices.Clip(right), first, reg("w"), second), len(right), codes[i])
				checkBoth(t, append(slices.Clip(right), reg("w"), first, second), len(right)+1, codes[i])
			}
		}
	}
}

// P7.3: 4,096 entries, and more, whatever they are.
func TestManyEntries(t *testing.T) {
	var l []api.Entry
	for i := range 5000 {
		l = append(l, dir("d"+strconv.Itoa(i*7919%5000)))
	}
	checkList(t, l[:4095], 0, api.OK)
	checkList(t, l[:4096], 0, api.OK)
	checkBoth(t, l[:4097], 4096, api.ErrLarge)
	checkBoth(t, l, 4096, api.ErrLarge)
	l[0].Path = ""
	checkBoth(t, l[:4096], 0, api.ErrName)
	checkBoth(t, l[:4097], 4096, api.ErrLarge)
	l[0] = l[4095]
	checkBoth(t, l[:4096], 4095, api.ErrThere)
	checkBoth(t, l[:4097], 4096, api.ErrLarge)
	checkBoth(t, make([]api.Entry, 70000), 4096, api.ErrLarge)
}

// P7.3: paths as deep as can be, with one at fault at the end.
func TestDeepPaths(t *testing.T) {
	deep := strings.Repeat("a/", 99) + "a"
	var l []api.Entry
	for at := len(deep); at > 0; at -= 2 {
		l = append(l, dir(deep[:at]))
	}
	l[0] = reg(deep)
	checkBoth(t, l, 0, api.OK)
	for i := 1; i < len(l); i++ {
		was := l[i]
		l[i] = link(l[i].Path, "x")
		checkBoth(t, l, i, api.ErrKind)
		l[i] = was
	}
	slices.Reverse(l)
	checkBoth(t, l, 0, api.OK)
	for i := range len(l) - 1 {
		was := l[i]
		l[i] = reg(l[i].Path)
		checkBoth(t, l, i+1, api.ErrKind)
		l[i] = was
	}
	for i := range 4096 - len(l) {
		l = append(l, dir(strings.Repeat("a/", 97)+"b"+strconv.Itoa(i)))
	}
	checkList(t, l, 0, api.OK)
	l[4095] = reg("a/a/a/a")
	checkBoth(t, l, 4095, api.ErrThere)
	l[4095] = reg(deep + "/a")
	checkBoth(t, l, 4095, api.ErrName)
}

// pool is all entries of some paths.
func pool(paths ...string) []api.Entry {
	var all []api.Entry
	for _, path := range paths {
		other := reg(path)
		other.Mode = 1
		all = append(all, reg(path), other, dir(path), link(path, "x"))
		for _, to := range paths {
			all = append(all, hard(path, to))
		}
	}
	return all
}

// eachList holds all lists of so many entries against the model.
func eachList(t *testing.T, l, all []api.Entry, more int, times map[api.Errno]int) {
	t.Helper()
	times[asModel(t, l)]++
	if more == 0 || t.Failed() {
		return
	}
	for _, e := range all {
		eachList(t, append(slices.Clip(l), e), all, more-1, times)
	}
}

// P7.3, P7.4: all small lists of a few entries.
func TestAllSmallLists(t *testing.T) {
	for n, paths := range map[int][]string{2: {"a", "a/b", "a/b/c", "a-", "a/c", "b", "b/a", "ab", "ÿ", ".a"}, 3: {"a", "a/b", "a/b/c", "a-", "b"}, 4: {"a", "a/b"}} {
		times := map[api.Errno]int{}
		eachList(t, nil, pool(paths...), n, times)
		for _, want := range []api.Errno{api.OK, api.ErrThere, api.ErrOrder, api.ErrArg, api.ErrKind, api.ErrName} {
			if times[want] < 5 {
				t.Errorf("of lists of %d, %d came %d times", n, want, times[want])
			}
		}
	}
}

// someRight is an entry that is right but for its path and link.
func someRight(random *rand.Rand, paths []string) api.Entry {
	e := of([]int{api.Reg, api.Reg, api.Dir, api.Dir, api.Link, api.Hard, api.Hard, api.Hard}[random.IntN(8)])
	e.Path = oneOf(random, paths...)
	if e.Kind == api.Hard {
		e.Link = oneOf(random, paths...)
	}
	if random.IntN(4) == 0 {
		rights()[random.IntN(6)](&e)
	}
	return e
}

// P7.3, P7.4: lists that grow by what leaves them right, and others that needn't.
func TestSomeLists(t *testing.T) {
	random := rand.New(rand.NewPCG(7, 3))
	paths := texts("ab-", 3)[1:]
	for _, s := range []string{"a", "b", "-"} {
		for _, s2 := range []string{"a", "b/a", "-"} {
			paths = append(paths, s+"/"+s2)
		}
	}
	times := map[api.Errno]int{}
	for range 3000 {
		var l []api.Entry
		for range random.IntN(60) {
			l = append(l, someRight(random, paths))
			if _, code := listError(l); code != api.OK && random.IntN(30) > 0 {
				l = l[:len(l)-1]
			}
		}
		times[asModel(t, l)]++
		if at, code := entry.CheckAll(slices.Concat(listOf(dir("other")), l)); code != api.OK {
			if was, _ := listError(l); at != was+1 {
				t.Errorf("%s: %d, behind another one %d", told(l), was, at)
			}
		}
	}
	for _, want := range []api.Errno{api.OK, api.ErrThere, api.ErrOrder, api.ErrArg, api.ErrKind, api.ErrName} {
		if times[want] < 20 {
			t.Errorf("%d came %d times", want, times[want])
		}
	}
}
