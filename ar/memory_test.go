package ar_test

import (
	"bytes"
	"slices"
	"testing"

	"drayage/api"
	"drayage/ar"
)

// spoil writes over bytes and all the memory that they have, and grows them.
func spoil(b []byte) {
	b = b[:cap(b)]
	for i := range b {
		b[i] ^= 0x5a
	}
	_ = append(b, 9, 9, 9)
}

// spoilItems does so with a list, and with the bytes of each item.
func spoilItems(l []api.Item) {
	l = l[:cap(l)]
	for i := range l {
		spoil(l[i].Data)
		l[i] = api.Item{Name: "spoiled", Mtime: 9, Data: []byte("spoiled")}
	}
	_ = append(l, api.Item{Name: "spoiled"})
}

// whole is a copy of all that a list has, with what lies behind the lengths.
func whole(l []api.Item) []api.Item {
	l = slices.Clone(l[:cap(l)])
	for i := range l {
		l[i].Data = l[i].Data[:cap(l[i].Data)]
	}
	return copied(l)
}

// copied is a copy of a list, and of the bytes of each item.
func copied(l []api.Item) []api.Item {
	l = slices.Clone(l)
	for i := range l {
		l[i].Data = bytes.Clone(l[i].Data)
	}
	return l
}

// wide is a list with others behind its length, whose data have other bytes behind theirs; its names have room in each style.
func wide() []api.Item {
	l := []api.Item{{Name: "a", Mtime: 1, Data: []byte("odd")}, {Name: "b c"}, {Name: "d", Data: []byte("even")}, {Name: "#1"}, {Name: "e", Data: []byte("x")}}
	for i := range l {
		l[i].Data = append(l[i].Data, "more"...)[:len(l[i].Data)]
	}
	return append(l, api.Item{}, api.Item{Name: "/"}, api.Item{Name: "b"})[:5]
}

// P8.3: what is written stays, also what lies behind its length, which isn't read.
func TestItemsStay(t *testing.T) {
	l := wide()
	was := whole(l)
	for style := range 3 {
		for n := range len(l) + 1 {
			b, e := ar.Write(l[:n], style)
			alone, eAlone := ar.Write(slices.Clip(slices.Clone(l[:n])), style)
			if !bytes.Equal(b, alone) || e != api.OK || eAlone != api.OK {
				t.Errorf("style %d, %d items: %q %d, alone %q %d", style, n, b, e, alone, eAlone)
			}
		}
	}
	for _, x := range l {
		ar.Check(x)
	}
	checkItems(t, "what was handed in", whole(l), was)
}

// P8.3: an archive is new memory: it may be written over and grown, and what was handed in, too.
func TestArchivesAreNew(t *testing.T) {
	for style := range 3 {
		for _, n := range []int{0, 1, 2, 5} {
			l := wide()
			was := whole(l)
			kept, _ := ar.Write(l[:n], style)
			want := bytes.Clone(kept)
			other, _ := ar.Write(l[:n], style)
			spoil(other)
			if !bytes.Equal(kept, want) {
				t.Errorf("style %d, %d items: an answer shares memory", style, n)
			}
			checkItems(t, "what was handed in", whole(l), was)
			if again, _ := ar.Write(l[:n], style); !bytes.Equal(again, want) {
				t.Errorf("style %d, %d items: another answer", style, n)
			}
			spoilItems(l)
			if !bytes.Equal(kept, want) {
				t.Errorf("style %d, %d items: an answer changes by what was handed in", style, n)
			}
		}
	}
}

// P8.3: what is read stays, also what lies behind its length, which isn't read.
func TestArchivesStay(t *testing.T) {
	for _, s := range written() {
		was := []byte(s)
		for n := range len(was) + 1 {
			b := bytes.Clone(was)
			l, f := ar.Read(b[:n])
			if !bytes.Equal(b, was) {
				t.Fatalf("%d bytes of %q aren't left as they were", n, was)
			}
			alone, fault := ar.Read(slices.Clip(bytes.Clone(was[:n])))
			if f != fault {
				t.Errorf("%d bytes of %q: %v, alone %v", n, was, f, fault)
			}
			checkItems(t, "alone", l, alone)
		}
	}
}

// P8.3: items that were read are new memory, and no two share any.
func TestItemsAreNew(t *testing.T) {
	for _, s := range written() {
		b := []byte(s)
		kept, _ := ar.Read(b)
		want := copied(kept)
		for i := range want {
			other, _ := ar.Read(b)
			spoil(other[i].Data)
			other[i].Name = "other"
			checkItems(t, "ahead of one that is spoiled", other[:i], want[:i])
			checkItems(t, "behind one that is spoiled", other[i+1:], want[i+1:])
			spoilItems(other)
		}
		if string(b) != s {
			t.Errorf("what was handed in changes by an answer")
		}
		checkItems(t, "beside answers that are spoiled", kept, want)
		again, _ := ar.Read(b)
		checkItems(t, "again", again, want)
		spoil(b)
		checkItems(t, "beside what was handed in", kept, want)
		checkItems(t, "beside what was handed in", again, want)
	}
}

// P8.3: items that were read may be written, in each style, and written over behind that.
func TestWriteWhatWasRead(t *testing.T) {
	for _, s := range written() {
		for style := 1; style < 3; style++ {
			b := []byte(s)
			l, _ := ar.Read(b)
			want := copied(l)
			out, e := ar.Write(l, style)
			if e != api.OK {
				t.Errorf("style %d: %d", style, e)
			}
			spoilItems(l)
			spoil(b)
			checkRead(t, string(out), want...)
		}
	}
}
