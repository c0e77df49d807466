package entry_test

import (
	"bytes"
	"math"
	"slices"
	"testing"

	"drayage/api"
	"drayage/entry"
)

// checkSame holds two lists against each other, both ways.
func checkSame(t *testing.T, what string, a, b []api.Entry, want bool) {
	t.Helper()
	if entry.Same(a, b) != want || entry.Same(b, a) != want {
		t.Errorf("%s: %s %s: %v", what, told(a), told(b), !want)
	}
}

// someLists is lists of many kinds, right or not, no two the same.
func someLists() [][]api.Entry {
	return [][]api.Entry{
		nil,
		{{}},
		{{}, {}},
		{{Path: "a", Kind: 9, Mode: -1, Uid: math.MinInt, Link: "\x00", Data: []byte("x")}},
		listOf(reg("a")),
		listOf(reg("a"), reg("a")),
		listOf(reg("a"), reg("b")),
		listOf(reg("b"), reg("a")),
		listOf(reg("b"), hard("a", "b")),
		listOf(dataOf("a", "b"), hard("b", "a")),
		listOf(of(api.Reg), of(api.Dir), of(api.Link), of(api.Hard)),
		listOf(of(api.Reg), of(api.Dir), of(api.Hard), of(api.Link)),
		make([]api.Entry, 4097),
		{{Data: make([]byte, 1<<20+1)}},
	}
}

// P7.5: lists are the same as themselves, and as no other.
func TestSameLists(t *testing.T) {
	for i, a := range someLists() {
		for k, b := range someLists() {
			checkSame(t, "lists", a, b, i == k)
		}
		for n := range min(len(a), 9) {
			checkSame(t, "a beginning", a, a[:n], false)
			checkSame(t, "an end", a, a[n+1:], false)
		}
	}
	checkSame(t, "nothing", nil, []api.Entry{}, true)
}

// P7.5: each field counts.
func TestEachFieldCounts(t *testing.T) {
	all := append(rights(),
		func(e *api.Entry) { e.Path += "x" },
		func(e *api.Entry) { e.Path = "" },
		func(e *api.Entry) { e.Kind++ },
		func(e *api.Entry) { e.Kind = -e.Kind },
		func(e *api.Entry) { e.Mode = -e.Mode },
		func(e *api.Entry) { e.Uid, e.Gid = e.Gid, e.Uid },
		func(e *api.Entry) { e.Uid += 1 << 32 },
		func(e *api.Entry) { e.Mtime = math.MinInt },
		func(e *api.Entry) { e.Owner, e.Group = e.Group, e.Owner },
		func(e *api.Entry) { e.Owner, e.Group = "", e.Owner+e.Group },
		func(e *api.Entry) { e.Group = "" },
		func(e *api.Entry) { e.Link += "\x00" },
		func(e *api.Entry) { e.Data = append([]byte("x"), e.Data...) },
		func(e *api.Entry) { e.Data = append(bytes.Clone(e.Data), 0) },
	)
	for _, kind := range kinds() {
		for at := range 3 {
			for i, change := range all {
				l := listOf(reg("a"), reg("b"), reg("c"))
				l[at] = of(kind)
				other := slices.Clone(l)
				change(&other[at])
				checkSame(t, "field "+string(rune('a'+i)), l, other, false)
			}
		}
	}
	l, other := listOf(of(api.Reg)), listOf(of(api.Reg))
	for i := range l[0].Data {
		other[0].Data[i] ^= 0x80
		checkSame(t, "data", l, other, false)
		other[0].Data[i] ^= 0x80
	}
	checkSame(t, "data", l, other, true)
}

// P7.5: data without bytes are the same, nil or not.
func TestSameWithoutData(t *testing.T) {
	for _, kind := range kinds() {
		a, b := of(kind), of(kind)
		a.Data, b.Data = nil, []byte{}
		checkSame(t, "no data", listOf(a), listOf(b), true)
		b.Data = []byte("x")[:0]
		checkSame(t, "no data", listOf(a), listOf(b), true)
		b.Data = b.Data[:1]
		checkSame(t, "data", listOf(a), listOf(b), false)
	}
}

// P7.5: a copy has the same entries, whatever they are.
func TestCopies(t *testing.T) {
	for _, l := range someLists() {
		out := entry.Copy(l)
		if !areAlike(out, l) || !entry.Same(out, l) {
			t.Errorf("%s: %s", told(l), told(out))
		}
	}
}
