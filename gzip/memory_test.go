package gzip_test

import (
	"bytes"
	"slices"
	"testing"

	"drayage/api"
	"drayage/deflate"
	"drayage/gzip"
)

// spoil writes over bytes and all the memory that they have, and grows them.
func spoil(b []byte) {
	b = b[:cap(b)]
	for i := range b {
		b[i] ^= 0x5a
	}
	_ = append(b, 9, 9, 9)
}

// P6.3: what is packed stays, also what lies behind its length, which isn't read; what comes is new memory.
func TestPackMemory(t *testing.T) {
	was := someBytes(70010)
	for _, how := range ways() {
		for _, n := range []int{0, 1, 10, 5000, 70000} {
			b := bytes.Clone(was)
			m := api.Member{Name: "name", Mtime: 5, Data: b[:n]}
			kept, e := gzip.Pack(m, how)
			if !bytes.Equal(b, was) || m.Name != "name" || m.Mtime != 5 || len(m.Data) != n || e != api.OK {
				t.Errorf("by %d: %d bytes aren't left as they were: %d", how, n, e)
			}
			want := bytes.Clone(kept)
			spoil(b[n:])
			other, _ := gzip.Pack(m, how)
			if !bytes.Equal(other, want) {
				t.Errorf("by %d: %d bytes are packed otherwise if others lie behind", how, n)
			}
			spoil(other)
			if !bytes.Equal(kept, want) || !bytes.Equal(b[:n], was[:n]) {
				t.Errorf("by %d: an answer of %d bytes shares memory", how, n)
			}
			if again, _ := gzip.Pack(m, how); !bytes.Equal(again, want) {
				t.Errorf("by %d: %d bytes are packed otherwise again", how, n)
			}
			spoil(b)
			if !bytes.Equal(kept, want) {
				t.Errorf("by %d: an answer of %d bytes changes by what was handed in", how, n)
			}
		}
	}
}

// unpackable is streams whose members have all parts, and how many bytes they unpack to.
func unpackable() (b []byte, most int, want []api.Member) {
	var all []made
	for i, n := range []int{0, 1, 300, 5000, 0, 20000} {
		all = append(all, made{byte(31 - i), uint32(i), "extra", "name", "comment", string(someBytes(n)), i % 3})
		want = append(want, all[i].member())
		most += n
	}
	return streamOf(all...), most, want
}

// P6.3: what is unpacked stays, also what lies behind its length, which isn't read.
func TestStreamsStay(t *testing.T) {
	was, most, _ := unpackable()
	for n := range len(was) + 1 {
		if n > 800 && n < len(was)-800 && n%97 > 0 {
			continue
		}
		b := bytes.Clone(was)
		all, f := gzip.Unpack(b[:n], most)
		if !bytes.Equal(b, was) {
			t.Fatalf("%d bytes of %d aren't left as they were", n, len(was))
		}
		alone, fault := gzip.Unpack(was[:n:n], most)
		if f != fault {
			t.Errorf("%d bytes of %d: %v, alone %v", n, len(was), f, fault)
		}
		checkMembers(t, "alone", all, alone)
	}
}

// P6.3: members may be written over and grown, and so may what was handed in: nothing else changes by it.
func TestMembersAreNew(t *testing.T) {
	was, most, want := unpackable()
	b := bytes.Clone(was)
	kept, f := gzip.Unpack(b, most)
	if f != (api.Fault{}) {
		t.Fatalf("%v", f)
	}
	for i := range want {
		other, _ := gzip.Unpack(b, most)
		spoil(other[i].Data)
		other[i].Name = "other"
		checkMembers(t, "beside one that is spoiled", other[:i], want[:i])
		checkMembers(t, "beside one that is spoiled", other[i+1:], want[i+1:])
		other = other[:cap(other)]
		clear(other)
		_ = append(other, api.Member{Name: "more"})
	}
	if !bytes.Equal(b, was) {
		t.Errorf("what was handed in changes by an answer")
	}
	checkMembers(t, "beside answers that are spoiled", kept, want)
	again, _ := gzip.Unpack(b, most)
	checkMembers(t, "again", again, want)
	spoil(b)
	checkMembers(t, "beside what was handed in", kept, want)
	checkMembers(t, "beside what was handed in", again, want)
}

// P6.3: a member that was unpacked may be packed, and written over behind that.
func TestPackWhatWasUnpacked(t *testing.T) {
	m := made{flags: 8, name: "name", mtime: 3, data: "drayage", how: deflate.Dynamic}
	b := m.bytes()
	all, _ := gzip.Unpack(b, 7)
	packed, _ := gzip.Pack(all[0], deflate.Dynamic)
	want := slices.Clone(packed)
	spoil(all[0].Data)
	spoil(b)
	if !bytes.Equal(packed, want) {
		t.Errorf("what was packed changes by its member")
	}
	checkUnpack(t, "packed again", packed, 7, m.member())
}
