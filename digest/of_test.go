package digest_test

import (
	"bytes"
	"crypto/md5"
	"crypto/sha1"
	"crypto/sha256"
	"encoding/hex"
	"math"
	"strconv"
	"testing"

	"drayage/api"
	"drayage/digest"
)

// noKinds is numbers that are no kind of digests.
var noKinds = []int{0, -1, 4, 5, 256, 257, 1<<32 + 1, math.MinInt, math.MaxInt}

// kinds is each kind, and how the library sums by it.
func kinds() map[int]func(b []byte) []byte {
	return map[int]func(b []byte) []byte{
		api.Md5:    func(b []byte) []byte { s := md5.Sum(b); return s[:] },
		api.Sha1:   func(b []byte) []byte { s := sha1.Sum(b); return s[:] },
		api.Sha256: func(b []byte) []byte { s := sha256.Sum256(b); return s[:] },
	}
}

// P2.2
func TestOf(t *testing.T) {
	const twoBlocks = "abcdbcdecdefdefgefghfghighijhijkijkljklmklmnlmnomnopnopq"
	for _, c := range []struct {
		kind    int
		b, want string
	}{
		{api.Md5, "", "d41d8cd98f00b204e9800998ecf8427e"},
		{api.Md5, "abc", "900150983cd24fb0d6963f7d28e17f72"},
		{api.Md5, "message digest", "f96b697d7cb7938d525a2f31aaf161d0"},
		{api.Sha1, "", "da39a3ee5e6b4b0d3255bfef95601890afd80709"},
		{api.Sha1, "abc", "a9993e364706816aba3e25717850c26c9cd0d89d"},
		{api.Sha1, twoBlocks, "84983e441c3bd26ebaae4aa1f95129e5e54670f1"},
		{api.Sha256, "", "e3b0c44298fc1c149afbf4c8996fb92427ae41e4649b934ca495991b7852b855"},
		{api.Sha256, "abc", "ba7816bf8f01cfea414140de5dae2223b00361a396177a9cb410ff61f20015ad"},
		{api.Sha256, twoBlocks, "248d6a61d20638b8e5c026930c3e6039a33ce45964ff2167f6ecedd419db06c1"},
	} {
		if s := hex.EncodeToString(digest.Of(c.kind, []byte(c.b))); s != c.want {
			t.Errorf("Of(%d, %q): %s, not %s", c.kind, c.b, s, c.want)
		}
	}
}

// P2.2: every length up to some blocks, so that each way to fill the last ones up is met.
func TestOfLikeTheLibrarys(t *testing.T) {
	all := sample(400)
	for kind, sum := range kinds() {
		for size := range all {
			for _, b := range [][]byte{all[:size], bytes.Repeat([]byte{0}, size), bytes.Repeat([]byte{0xff}, size)} {
				if s, want := digest.Of(kind, b), sum(b); !bytes.Equal(s, want) {
					t.Errorf("Of(%d, %x): %x, not %x", kind, b, s, want)
				}
			}
		}
		if s, want := digest.Of(kind, nil), sum(nil); !bytes.Equal(s, want) {
			t.Errorf("Of(%d, nil): %x, not %x", kind, s, want)
		}
		long := sample(1<<20 + 1)
		if s, want := digest.Of(kind, long), sum(long); !bytes.Equal(s, want) {
			t.Errorf("Of(%d) of %d bytes: %x, not %x", kind, len(long), s, want)
		}
	}
}

// P2.2
func TestOfNoKind(t *testing.T) {
	for _, kind := range noKinds {
		for _, b := range [][]byte{nil, []byte("abc"), sample(99)} {
			if s := digest.Of(kind, b); len(s) != 0 {
				t.Errorf("Of(%d, %x): %x", kind, b, s)
			}
		}
	}
}

// P2.2, P2.3: how many bits there are doesn't fit into four bytes.
func TestMoreBitsThanFourBytesCount(t *testing.T) {
	const pieces = 512
	piece := make([]byte, 1<<20)
	for kind, want := range map[int]string{
		api.Md5:    "ea3b62c6b93cb3625a1fd76777985f5a",
		api.Sha1:   "3e1bb536d18494c32e66ef9f479d65bbe0d863de",
		api.Sha256: "7c40fe5ce847740d0f0d0cdde3949d6585804cdec3ae61a15b923165699c8137",
	} {
		t.Run(strconv.Itoa(kind), func(t *testing.T) {
			t.Parallel()
			h, _ := digest.New(kind)
			for range pieces {
				h.Write(piece)
			}
			h.Write(piece[:1])
			if s := hex.EncodeToString(h.Sum()); s != want {
				t.Errorf("%s, not %s", s, want)
			}
		})
	}
}
