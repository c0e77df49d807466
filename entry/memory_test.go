package entry_test

import (
	"bytes"
	"slices"
	"testing"

	"drayage/api"
	"drayage/entry"
)

// wide is a list with others behind its length, whose data have other bytes behind theirs.
func wide() []api.Entry {
	l := listOf(dir("d"), reg("d/b"), hard("a", "d/b"), hard("d/a", "d/b"), link("c", "a"), reg("e"), reg("f"), reg("g"))
	for i := range l {
		if l[i].Kind == api.Reg {
			l[i].Data = append(l[i].Data, "more"...)[:len(l[i].Data)]
		}
	}
	l[6].Data = l[6].Data[:0]
	l = append(l, reg("d/b"), reg("c"), api.Entry{})
	return l[:8]
}

// whole is a copy of all that a list has, with what lies behind the lengths.
func whole(l []api.Entry) []api.Entry {
	l = slices.Clone(l[:cap(l)])
	for i := range l {
		l[i].Data = bytes.Clone(l[i].Data[:cap(l[i].Data)])
	}
	return l
}

// spoil writes over a list and all the memory that it has, and grows it.
func spoil(l []api.Entry) {
	l = l[:cap(l)]
	for i := range l {
		data := l[i].Data[:cap(l[i].Data)]
		for k := range data {
			data[k] ^= 0x5a
		}
		_ = append(l[i].Data, 9, 9, 9)
	}
	for i := range l {
		l[i] = api.Entry{Path: "spoiled", Data: []byte("spoiled")}
	}
	_ = append(l, api.Entry{Path: "spoiled"})
}

// makers is what answers a list.
func makers() []func([]api.Entry) []api.Entry {
	return []func([]api.Entry) []api.Entry{
		entry.Copy,
		func(l []api.Entry) []api.Entry { l, _ = entry.Canon(l); return l },
	}
}

// P7.5: what is handed in stays, also what lies behind its length, which isn't read.
func TestHandedInStays(t *testing.T) {
	l := wide()
	was := whole(l)
	for n := range len(l) + 1 {
		alone := slices.Clip(slices.Clone(l[:n]))
		at, code := entry.CheckAll(l[:n])
		atAlone, codeAlone := entry.CheckAll(alone)
		if at != atAlone || code != codeAlone {
			t.Errorf("%d entries: %d %d, alone %d %d", n, at, code, atAlone, codeAlone)
		}
		for i, do := range makers() {
			if !areAlike(do(l[:n]), do(alone)) {
				t.Errorf("%d, %d entries: %s, alone %s", i, n, told(do(l[:n])), told(do(alone)))
			}
		}
		if !entry.Same(l[:n], alone) || entry.Same(l[:n], l[:n+1]) {
			t.Errorf("%d entries: Same", n)
		}
	}
	for _, e := range l {
		entry.Check(e)
	}
	if !areAlike(whole(l), was) {
		t.Errorf("%s isn't left as it was", told(l))
	}
}

// P7.5: answers are new memory, and what is of one list isn't of another.
func TestAnswersAreNew(t *testing.T) {
	for i, do := range makers() {
		l := wide()
		was := whole(l)
		kept, other := do(l), do(l)
		want := whole(kept)
		spoil(other)
		if !areAlike(whole(l), was) || !areAlike(whole(kept), want) {
			t.Errorf("%d: an answer shares memory", i)
		}
		if again := do(l); !areAlike(again, kept) {
			t.Errorf("%d: another answer: %s", i, told(again))
		}
		spoil(l)
		if !areAlike(whole(kept), want) {
			t.Errorf("%d: an answer changes by what was handed in", i)
		}
	}
}

// P7.5: no two entries of an answer share data, though those that were handed in did.
func TestAnswersShareNothing(t *testing.T) {
	data := []byte("shared data")
	for i, do := range makers() {
		l := listOf(reg("b"), hard("a", "b"), reg("c"), reg("d"), reg("e"))
		l[0].Data, l[2].Data, l[3].Data, l[4].Data = data, data, data[:6], data[6:]
		out, want := do(l), do(l)
		for k := range out {
			spoil(out[k : k+1 : k+1])
			want[k] = out[k]
			if !areAlike(out, want) || string(data) != "shared data" {
				t.Errorf("%d: entry %d shares memory", i, k)
			}
		}
	}
}
