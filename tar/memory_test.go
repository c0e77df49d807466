package tar_test

import (
	"bytes"
	"slices"
	"testing"

	"drayage/api"
	"drayage/entry"
	"drayage/tar"
)

// spoil writes over bytes and all the memory that they have, and grows them.
func spoil(b []byte) {
	b = b[:cap(b)]
	for i := range b {
		b[i] ^= 0x5a
	}
	_ = append(b, 9, 9, 9)
}

// spoilEntries does so with a list, and with the bytes of each entry.
func spoilEntries(l []api.Entry) {
	l = l[:cap(l)]
	for i := range l {
		spoil(l[i].Data)
		l[i] = api.Entry{Path: "spoiled", Kind: api.Dir, Link: "spoiled", Data: []byte("spoiled")}
	}
	_ = append(l, api.Entry{Path: "spoiled"})
}

// whole is a copy of all that a list has, with what lies behind the lengths.
func whole(l []api.Entry) []api.Entry {
	l = slices.Clone(l[:cap(l)])
	for i := range l {
		l[i].Data = l[i].Data[:cap(l[i].Data)]
	}
	return entry.Copy(l)
}

// wide is a list with others behind its length, whose data have other bytes behind theirs; it has room in each style.
func wide() []api.Entry {
	l := []api.Entry{{Path: "a", Kind: api.Reg, Mode: 1, Data: []byte("odd")}, {Path: "b", Kind: api.Dir}, {Path: "b/c", Kind: api.Reg, Data: []byte("even")}, {Path: "d", Kind: api.Hard, Mode: 1, Link: "a"}, named(api.Reg, 60, 60)}
	for i := range l {
		if l[i].Kind == api.Reg {
			l[i].Data = append(l[i].Data, "more"...)[:len(l[i].Data)]
		}
	}
	return append(l, api.Entry{}, api.Entry{Path: "/"}, api.Entry{Path: "a"})[:5]
}

// P9.3: what is written stays, also what lies behind its length, which isn't read.
func TestEntriesStay(t *testing.T) {
	l := wide()
	was := whole(l)
	for style := range 3 {
		for n := range len(l) + 1 {
			b, e := tar.Write(l[:n], style)
			alone, eAlone := tar.Write(slices.Clip(slices.Clone(l[:n])), style)
			if !bytes.Equal(b, alone) || e != api.OK || eAlone != api.OK {
				t.Errorf("style %d, %d entries: %s %d, alone %s %d", style, n, brief(string(b)), e, brief(string(alone)), eAlone)
			}
		}
	}
	checkEntries(t, "what was handed in", whole(l), was)
}

// P9.3: an archive is new memory: it may be written over and grown, and what was handed in, too.
func TestArchivesAreNew(t *testing.T) {
	for style := range 3 {
		for _, n := range []int{0, 1, 2, 5} {
			l := wide()
			was := whole(l)
			kept, _ := tar.Write(l[:n], style)
			want := bytes.Clone(kept)
			other, _ := tar.Write(l[:n], style)
			spoil(other)
			if !bytes.Equal(kept, want) {
				t.Errorf("style %d, %d entries: an answer shares memory", style, n)
			}
			checkEntries(t, "what was handed in", whole(l), was)
			if again, _ := tar.Write(l[:n], style); !bytes.Equal(again, want) {
				t.Errorf("style %d, %d entries: another answer", style, n)
			}
			spoilEntries(l)
			if !bytes.Equal(kept, want) {
				t.Errorf("style %d, %d entries: an answer changes by what was handed in", style, n)
			}
		}
	}
}

// P9.3: what is read stays, also what lies behind its length, which isn't read.
func TestArchivesStay(t *testing.T) {
	for _, s := range written() {
		was := []byte(s)
		b := bytes.Clone(was)
		for n := range len(was) + 1 {
			l, f := tar.Read(b[:n])
			alone, fault := tar.Read(slices.Clip(bytes.Clone(was[:n])))
			if f != fault {
				t.Errorf("%d bytes of %s: %v, alone %v", n, brief(s), f, fault)
			}
			checkEntries(t, "alone", l, alone)
		}
		if !bytes.Equal(b, was) {
			t.Errorf("%s isn't left as it was", brief(s))
		}
	}
}

// P9.3: entries that were read are new memory, and no two share any.
func TestEntriesAreNew(t *testing.T) {
	for _, s := range append(written(), archiveOf(rawOf("0", "a", "data of a"), rawOf("0", "b", "data of b"), rawOf("0", "c", ""))) {
		b := []byte(s)
		kept, _ := tar.Read(b)
		want := entry.Copy(kept)
		for i := range want {
			other, _ := tar.Read(b)
			spoil(other[i].Data)
			other[i].Path = "other"
			checkEntries(t, "ahead of one that is spoiled", other[:i], want[:i])
			checkEntries(t, "behind one that is spoiled", other[i+1:], want[i+1:])
			spoilEntries(other)
		}
		if string(b) != s {
			t.Errorf("what was handed in changes by an answer")
		}
		checkEntries(t, "beside answers that are spoiled", kept, want)
		again, _ := tar.Read(b)
		checkEntries(t, "again", again, want)
		spoil(b)
		checkEntries(t, "beside what was handed in", kept, want)
		checkEntries(t, "beside what was handed in", again, want)
	}
}

// P9.3: entries that were read may be written, in each style, and written over behind that.
func TestWriteWhatWasRead(t *testing.T) {
	for _, s := range written() {
		for style := 1; style < 3; style++ {
			b := []byte(s)
			l, _ := tar.Read(b)
			want := entry.Copy(l)
			out, e := tar.Write(l, style)
			if e != api.OK {
				t.Errorf("style %d: %d", style, e)
			}
			spoilEntries(l)
			spoil(b)
			checkRead(t, string(out), want...)
		}
	}
}
