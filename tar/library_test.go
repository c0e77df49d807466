package tar_test

import (
	library "archive/tar"
	"bytes"
	"io"
	"math/rand/v2"
	"strings"
	"testing"
	"time"

	"drayage/api"
	"drayage/tar"
)

// kinds is the library's types, by the kinds.
func kinds() map[int]byte {
	return map[int]byte{api.Reg: library.TypeReg, api.Dir: library.TypeDir, api.Link: library.TypeSymlink, api.Hard: library.TypeLink}
}

// byLibrary is what the library reads.
func byLibrary(t *testing.T, b []byte) []api.Entry {
	t.Helper()
	var l []api.Entry
	r := library.NewReader(bytes.NewReader(b))
	for {
		h, err := r.Next()
		if err == io.EOF {
			return l
		}
		if err != nil {
			t.Errorf("the library, entry %d: %v", len(l), err)
			return l
		}
		data, err := io.ReadAll(r)
		if err != nil {
			t.Errorf("the library, entry %d: %v", len(l), err)
		}
		x := api.Entry{Path: h.Name, Mode: int(h.Mode), Uid: h.Uid, Gid: h.Gid, Owner: h.Uname, Group: h.Gname, Mtime: int(h.ModTime.Unix()), Link: h.Linkname, Data: data}
		for kind, flag := range kinds() {
			if flag == h.Typeflag {
				x.Kind = kind
			}
		}
		if x.Kind == api.Dir {
			x.Path = strings.TrimSuffix(x.Path, "/")
		}
		l = append(l, x)
	}
}

// ofLibrary is what the library writes of a list.
func ofLibrary(t *testing.T, l []api.Entry, format library.Format) []byte {
	t.Helper()
	var out bytes.Buffer
	w := library.NewWriter(&out)
	for _, x := range l {
		h := &library.Header{Typeflag: kinds()[x.Kind], Name: modelName(x), Linkname: x.Link, Size: int64(len(x.Data)), Mode: int64(x.Mode), Uid: x.Uid, Gid: x.Gid, Uname: x.Owner, Gname: x.Group, ModTime: time.Unix(int64(x.Mtime), 0), Format: format}
		if err := w.WriteHeader(h); err != nil {
			t.Fatalf("the library, %s: %v", shown(x), err)
		}
		if _, err := w.Write(x.Data); err != nil {
			t.Fatal(err)
		}
	}
	if err := w.Close(); err != nil {
		t.Fatal(err)
	}
	return out.Bytes()
}

// fitting is a list that the library takes, too: letters alone, and long names that part.
func fitting(random *rand.Rand, long bool) []api.Entry {
	name := func() string {
		s := ""
		for range 1 + random.IntN(4) {
			s += "/" + strings.Repeat(string(rune('a'+random.IntN(26))), 1+random.IntN(9))
		}
		if long && random.IntN(2) == 0 {
			s += strings.Repeat("long/long", 1+random.IntN(16))
		}
		return s[1:]
	}
	var l []api.Entry
	for i := range random.IntN(9) {
		x := api.Entry{Path: string(rune('A'+i)) + name(), Kind: 1 + random.IntN(3), Mode: random.IntN(api.MaxMode + 1), Uid: random.IntN(api.MaxId + 1), Gid: random.IntN(api.MaxId + 1), Mtime: random.IntN(api.MaxTime + 1), Owner: "root", Group: name()[:1]}
		switch {
		case x.Kind == api.Link:
			x.Link = name()
		case x.Kind == api.Reg:
			x.Data = someBytes(random.IntN(1600))
		}
		l = append(l, x)
		if x.Kind == api.Reg && random.IntN(3) == 0 {
			x.Path, x.Kind, x.Link, x.Data = "h"+x.Path, api.Hard, x.Path, nil
			l = append(l, x)
		}
	}
	return l
}

// P9.1, P9.2: what is written is read by the library as it was, and what the library writes is read.
func TestAsTheLibrary(t *testing.T) {
	random := rand.New(rand.NewPCG(9, 4))
	formats := [3]library.Format{library.FormatUSTAR, library.FormatGNU, library.FormatPAX}
	for range 1500 {
		for style, format := range formats {
			l := fitting(random, style != tar.Ustar)
			b, e := tar.Write(l, style)
			if e != api.OK {
				t.Fatalf("style %d: %d", style, e)
			}
			checkEntries(t, "by the library", byLibrary(t, b), l)
			checkRead(t, string(ofLibrary(t, l, format)), l...)
		}
	}
}
