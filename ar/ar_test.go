package ar_test

import (
	"bytes"
	"math"
	"strings"
	"testing"

	"drayage/api"
	"drayage/ar"
)

// checkCheck holds what is wrong with an item against what should be.
func checkCheck(t *testing.T, x api.Item, want api.Errno) {
	t.Helper()
	if e := ar.Check(x); e != want {
		t.Errorf("%q %d %d %d %o, %d bytes: %d, not %d", x.Name, x.Mtime, x.Uid, x.Gid, x.Mode, len(x.Data), e, want)
	}
	if e := modelCheck(x); e != want {
		t.Fatalf("%q %d %d %d %o, %d bytes: the model says %d, not %d", x.Name, x.Mtime, x.Uid, x.Gid, x.Mode, len(x.Data), e, want)
	}
}

// texts is all texts of some letters, up to a length.
func texts(letters string, most int) []string {
	all := []string{""}
	for at := 0; len(all[at]) < most; at++ {
		for i := range len(letters) {
			all = append(all, all[at]+letters[i:i+1])
		}
	}
	return all
}

// P8.1: what is a name, and what isn't.
func TestCheckNames(t *testing.T) {
	for _, s := range []string{"a", "a b", "a  b", "#1", "#", "debian-binary", "control.tar.gz", ".", "..", "\t", "\ta\r", "\xff", "\xc2\xa0", "\u2003", "\x01", "\x7f", "`", "\\", "-", strings.Repeat("n", 199), strings.Repeat("n", 200), strings.Repeat("\xff", 200), "n" + strings.Repeat(" ", 198) + "n"} {
		checkCheck(t, api.Item{Name: s}, api.OK)
	}
	for _, s := range []string{"", " ", "  ", " a", "a ", " a ", "/", "//", "a/", "/a", "a/b", "#1/", "#1/1", "\x00", "a\x00", "\x00a", "a\x00b", "\n", "a\n", "\na", "a\nb", "a/\n", strings.Repeat("n", 201), strings.Repeat("\xff", 201), strings.Repeat("n", 9999), " " + strings.Repeat("n", 199), strings.Repeat("n", 199) + " ", strings.Repeat(" ", 200), strings.Repeat("n", 199) + "/"} {
		checkCheck(t, api.Item{Name: s}, api.ErrName)
	}
}

// P8.1: names of each byte, alone and at each place.
func TestCheckBytesOfNames(t *testing.T) {
	for v := range 256 {
		c := string([]byte{byte(v)})
		bad := strings.Contains("/\x00\n", c)
		for _, s := range []string{c, c + "a", "a" + c, "a" + c + "a", "aa" + c + "a"} {
			atEnd := s[0] == ' ' || s[len(s)-1] == ' '
			want := api.OK
			if bad || atEnd {
				want = api.ErrName
			}
			checkCheck(t, api.Item{Name: s}, want)
		}
	}
	for _, s := range texts("a /\x00\n#1\xff", 4) {
		checkCheck(t, api.Item{Name: s}, modelCheck(api.Item{Name: s}))
	}
}

// withNumber is an item one of whose numbers is n: the time, the owner, the group, the mode.
func withNumber(i, n int) api.Item {
	x := api.Item{Name: "a"}
	*[]*int{&x.Mtime, &x.Uid, &x.Gid, &x.Mode}[i] = n
	return x
}

// P8.1: each number up to its limits.
func TestCheckNumbers(t *testing.T) {
	for i, most := range []int{8589934591, 999999, 999999, 4095} {
		for _, n := range []int{0, 1, most / 2, most - 1, most} {
			checkCheck(t, withNumber(i, n), api.OK)
		}
		for _, n := range []int{-1, -most, most + 1, most * 2, math.MinInt, math.MaxInt, -1 << 32, 1 << 40} {
			checkCheck(t, withNumber(i, n), api.ErrArg)
		}
	}
	checkCheck(t, api.Item{Name: "a", Mtime: api.MaxTime, Uid: 999999, Gid: 999999, Mode: api.MaxMode, Data: make([]byte, api.MaxData)}, api.OK)
}

// P8.1: bytes up to their limit.
func TestCheckData(t *testing.T) {
	most := make([]byte, 1048577)
	checkCheck(t, api.Item{Name: "a", Data: []byte{}}, api.OK)
	checkCheck(t, api.Item{Name: "a", Data: most[:1]}, api.OK)
	checkCheck(t, api.Item{Name: "a", Data: most[:1048575]}, api.OK)
	checkCheck(t, api.Item{Name: "a", Data: most[:1048576]}, api.OK)
	checkCheck(t, api.Item{Name: "a", Data: most}, api.ErrLarge)
}

// P8.1: the name is asked first, then the numbers, then the bytes.
func TestCheckOrder(t *testing.T) {
	large := make([]byte, api.MaxData+1)
	for i := range 4 {
		for _, n := range []int{-1, math.MaxInt} {
			x := withNumber(i, n)
			x.Data = large
			checkCheck(t, x, api.ErrArg)
			x.Name = "/"
			checkCheck(t, x, api.ErrName)
			x.Data = nil
			checkCheck(t, x, api.ErrName)
		}
	}
	checkCheck(t, api.Item{Data: large}, api.ErrName)
	checkCheck(t, api.Item{Name: "a/", Data: large}, api.ErrName)
}

// P8.1, P8.3: the limits that an item may reach, written and read in each style.
func TestLimitsAreWritten(t *testing.T) {
	l := []api.Item{
		{Name: "all", Mtime: api.MaxTime, Uid: 999999, Gid: 999999, Mode: api.MaxMode, Data: bytes.Repeat([]byte("xyz"), api.MaxData/3)},
		{Name: "none"},
		{Name: "most", Data: make([]byte, api.MaxData)},
		{Name: "odd", Data: make([]byte, api.MaxData-1)},
	}
	for style := range 3 {
		checkWriteModel(t, l, style)
	}
}
