package entry_test

import (
	"math/rand/v2"
	"slices"
	"strconv"
	"strings"
	"testing"

	"drayage/api"
	"drayage/entry"
)

// checkCanon holds a list's Canon against what it should be, and against the model.
func checkCanon(t *testing.T, l []api.Entry, want ...api.Entry) {
	t.Helper()
	checkList(t, l, 0, api.OK)
	if out, code := entry.Canon(l); code != api.OK || !areAlike(out, want) {
		t.Errorf("%s: %d %s, not %s", told(l), code, told(out), told(want))
	}
}

// dataOf is a file that has another one's data.
func dataOf(path, other string) api.Entry {
	e := reg(path)
	e.Data = reg(other).Data
	return e
}

// P7.4: the chapter's example, and other groups.
func TestCanonOfGroups(t *testing.T) {
	checkCanon(t, nil)
	checkCanon(t, listOf(reg("a")), reg("a"))
	checkCanon(t, listOf(reg("b"), hard("a", "b")), dataOf("a", "b"), hard("b", "a"))
	checkCanon(t, listOf(reg("a"), hard("b", "a")), reg("a"), hard("b", "a"))
	checkCanon(t, listOf(reg("b"), hard("c", "b"), hard("a", "b")), dataOf("a", "b"), hard("b", "a"), hard("c", "a"))
	checkCanon(t, listOf(reg("c"), hard("b", "c"), hard("a", "c")), dataOf("a", "c"), hard("b", "a"), hard("c", "a"))
	checkCanon(t, listOf(reg("a"), hard("c", "a"), hard("b", "a")), reg("a"), hard("b", "a"), hard("c", "a"))
	checkCanon(t, listOf(reg("d"), hard("b", "d"), reg("c"), hard("a", "c"), link("e", "d")),
		dataOf("a", "c"), dataOf("b", "d"), hard("c", "a"), hard("d", "b"), link("e", "d"))
	// Links of another kind point where they pointed.
	checkCanon(t, listOf(reg("b"), link("c", "b"), hard("a", "b")), dataOf("a", "b"), hard("b", "a"), link("c", "b"))
	checkCanon(t, listOf(reg("x/b"), dir("x"), hard("a/x", "x/b"), dir("a")), dir("a"), dataOf("a/x", "x/b"), dir("x"), hard("x/b", "a/x"))
}

// P7.4: all of a group have the rights that they had.
func TestCanonKeepsRights(t *testing.T) {
	file, other := of(api.Reg), of(api.Hard)
	file.Path = other.Link
	wantFile, wantOther := file, other
	wantFile.Path, wantOther.Path, wantOther.Link = other.Path, file.Path, other.Path
	checkCanon(t, listOf(file, other), wantFile, wantOther)
	l := listOf(of(api.Dir), of(api.Link))
	l[0].Path, l[1].Path, l[1].Mode = "z", "y", 07777
	checkCanon(t, l, l[1], l[0])
}

// P7.4: files without data are files, too.
func TestCanonWithoutData(t *testing.T) {
	b, other := api.Entry{Path: "b", Kind: api.Reg}, hard("a", "b")
	for _, b.Data = range [][]byte{nil, {}} {
		for _, other.Data = range [][]byte{nil, {}} {
			checkCanon(t, listOf(b, other), api.Entry{Path: "a", Kind: api.Reg}, hard("b", "a"))
		}
	}
}

// P7.4: paths rise byte by byte, whatever cuts their parts.
func TestCanonRises(t *testing.T) {
	rising := listOf(reg("\x01"), reg(" "), dir("a"), reg("a "), reg("a-"), reg("a-b"), reg("a."), reg("a/ "), dir("a/b"), reg("a/b-"), reg("a/b/c"), reg("a/b0"), reg("a/bb"), reg("a0"), reg("aA"), reg("aa"), reg("b"), reg("\x7f"), reg("\x80"), reg("\xc3\xa4"), reg("\xff"), reg("\xff\xff"))
	random := rand.New(rand.NewPCG(7, 4))
	for range 100 {
		l := slices.Clone(rising)
		random.Shuffle(len(l), func(i, k int) { l[i], l[k] = l[k], l[i] })
		checkCanon(t, l, rising...)
	}
}

// P7.4: the error of CheckAll, and nothing else.
func TestCanonOfWrong(t *testing.T) {
	for _, c := range []struct {
		l    []api.Entry
		want api.Errno
	}{
		{listOf(reg("")), api.ErrName},
		{listOf(reg("a"), api.Entry{Path: "b"}), api.ErrKind},
		{listOf(reg("a"), reg("a")), api.ErrThere},
		{listOf(hard("a", "b"), reg("b")), api.ErrOrder},
		{listOf(reg("a"), reg("a/b")), api.ErrKind},
		{listOf(reg("b"), api.Entry{Path: "a", Kind: api.Hard, Link: "b", Uid: 1}), api.ErrArg},
		{make([]api.Entry, 4097), api.ErrLarge},
	} {
		if out, code := entry.Canon(c.l); code != c.want || len(out) > 0 {
			t.Errorf("%s: %d %s", told(c.l), code, told(out))
		}
	}
}

// orders goes through all orders of a list.
func orders(l []api.Entry, from int, do func([]api.Entry)) {
	if from == len(l) {
		do(l)
		return
	}
	for i := from; i < len(l); i++ {
		l[from], l[i] = l[i], l[from]
		orders(l, from+1, do)
		l[from], l[i] = l[i], l[from]
	}
}

// chosen is a list in which another one of a group is the file.
func chosen(l []api.Entry, path string) []api.Entry {
	l = slices.Clone(l)
	at := slices.IndexFunc(l, func(e api.Entry) bool { return e.Path == path })
	file := path
	if l[at].Kind == api.Hard {
		file = l[at].Link
	}
	data := l[slices.IndexFunc(l, func(e api.Entry) bool { return e.Path == file })].Data
	for i, e := range l {
		if e.Path == path {
			l[i].Kind, l[i].Link, l[i].Data = api.Reg, "", data
		} else if e.Path == file || e.Kind == api.Hard && e.Link == file {
			l[i].Kind, l[i].Link, l[i].Data = api.Hard, path, nil
		}
	}
	return l
}

// P7.4: what differs just in order, and in which one of a group is the file, has the same Canon.
func TestSameCanon(t *testing.T) {
	l := listOf(dir("b"), reg("b/c"), hard("a", "b/c"), hard("b/a", "b/c"), reg("b-"), hard("c", "b-"), link("d", "a"))
	want, _ := entry.Canon(l)
	right := 0
	for _, first := range []string{"a", "b/a", "b/c"} {
		for _, second := range []string{"b-", "c"} {
			orders(chosen(chosen(l, first), second), 0, func(l []api.Entry) {
				if _, code := listError(l); code != api.OK {
					return
				}
				right++
				if out, code := entry.Canon(l); code != api.OK || !areAlike(out, want) {
					t.Errorf("%s: %d %s, not %s", told(l), code, told(out), told(want))
				}
			})
		}
	}
	// In one of three orders a group of three has its file ahead, in one of two a group of two.
	if right != 6*5040/3/2 {
		t.Errorf("%d are right", right)
	}
}

// P7.4: lists that differ in more have other Canons.
func TestOtherCanon(t *testing.T) {
	l := listOf(reg("a"), hard("b", "a"), reg("c"), link("d", "c"), dir("e"))
	was, _ := entry.Canon(l)
	for i := range l {
		for _, change := range append(rights(), func(e *api.Entry) { e.Path += "x" }) {
			other := slices.Clone(l)
			change(&other[i])
			if i < 2 {
				other[1-i] = other[i]
				other[0].Path, other[0].Kind, other[0].Link, other[0].Data = "a", api.Reg, "", l[0].Data
				other[1].Path, other[1].Kind, other[1].Link, other[1].Data = other[i].Path+"y", api.Hard, "a", nil
			}
			if out, code := entry.Canon(other); code != api.OK || areAlike(out, was) {
				t.Errorf("%s: %d %s", told(other), code, told(out))
			}
		}
	}
	l[0].Data = []byte("other")
	if out, code := entry.Canon(l); code != api.OK || areAlike(out, was) {
		t.Errorf("%d %s", code, told(out))
	}
	if out, code := entry.Canon(listOf(reg("c"), hard("b", "c"), reg("a"))); code != api.OK || areAlike(out, was[:3]) {
		t.Errorf("%d %s", code, told(out))
	}
}

// P7.4: as many entries as there may be, in groups of many sizes.
func TestGreatCanon(t *testing.T) {
	random := rand.New(rand.NewPCG(7, 5))
	for _, size := range []int{1, 2, 7, 100, 4096} {
		var l []api.Entry
		for i := range 4096 {
			path := strconv.Itoa(random.IntN(10)) + strings.Repeat("/x", i%50) + "/" + strconv.Itoa(i)
			if i%size == 0 {
				l = append(l, reg(path))
			} else {
				l = append(l, hard(path, l[i-i%size].Path))
			}
		}
		var files, others []api.Entry
		for _, e := range l {
			if e.Kind == api.Reg {
				files = append(files, e)
			} else {
				others = append(others, e)
			}
		}
		random.Shuffle(len(files), func(i, k int) { files[i], files[k] = files[k], files[i] })
		random.Shuffle(len(others), func(i, k int) { others[i], others[k] = others[k], others[i] })
		out, code := entry.Canon(l)
		mixed, code2 := entry.Canon(slices.Concat(files, others))
		if code != api.OK || code2 != api.OK || !areAlike(out, mixed) {
			t.Errorf("groups of %d: %d %d %s %s", size, code, code2, told(out), told(mixed))
		}
		checkCanon(t, out, out...)
		if size > 7 {
			checkList(t, l, 0, api.OK)
		}
	}
}
