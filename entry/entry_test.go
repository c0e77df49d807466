package entry_test

import (
	"path"
	"strings"
	"testing"

	"drayage/entry"
)

// isPath is whether a text is a path, by its bytes.
func isPath(s string) bool {
	if len(s) < 1 || len(s) > 200 {
		return false
	}
	part := ""
	for i := 0; i <= len(s); i++ {
		if i < len(s) && s[i] == 0 {
			return false
		}
		if i < len(s) && s[i] != '/' {
			part += string(s[i : i+1])
			continue
		}
		if part == "" || part == "." || part == ".." {
			return false
		}
		part = ""
	}
	return true
}

// parentOf is the path that a path's last part is cut from, with the / ahead of it; "" if there is none.
func parentOf(s string) string {
	if !isPath(s) {
		return ""
	}
	parts := strings.Split(s, "/")
	return strings.Join(parts[:len(parts)-1], "/")
}

// checkPath holds what is told of a text against what it should be.
func checkPath(t *testing.T, s string, want bool) {
	t.Helper()
	if entry.Path(s) != want {
		t.Errorf("%q: %v", s, !want)
	}
	if want != isPath(s) {
		t.Fatalf("%q: the model says %v", s, !want)
	}
	checkParent(t, s)
}

func checkParent(t *testing.T, s string) {
	t.Helper()
	want := parentOf(s)
	if got, is := entry.Parent(s); got != want || is != (want != "") {
		t.Errorf("the parent of %q: %q %v, not %q", s, got, is, want)
	}
}

// texts is all texts of some letters, up to a length.
func texts(letters string, most int) []string {
	all := []string{""}
	for at := 0; len(all[at]) < most; at++ {
		for i := range len(letters) {
			all = append(all, all[at]+letters[i:i+1])
		}
	}
	return all
}

// P7.1: the chapter's examples, and others.
func TestPathExamples(t *testing.T) {
	for _, s := range []string{"a/b", "a", "ab/cd/ef", "usr/share/doc", "...", "..a", "a..", ".a", "a.", "a/.../b", "a/..b", "a/.b/c.", " ", "a b", "-", "~", "\\", "a\\b", "\n", "a\nb", "a:b", "\xff", "a/\xc3", "ä/ö", "*", "\x01"} {
		checkPath(t, s, true)
	}
	for _, s := range []string{"", "/", "/a", "a/", "//", "a//b", "a/../b", ".", "..", "./a", "../a", "a/.", "a/..", "a/./b", "/a/b", "a/b/", "/.", "//a", "a//", "a/b//c", "\x00", "a\x00", "\x00a", "a\x00b", "a/\x00/b", "a/b\x00"} {
		checkPath(t, s, false)
	}
}

// P7.1: all texts of a few letters.
func TestPathsOfFewLetters(t *testing.T) {
	all := texts("a/.\x00", 7)
	if len(all) != (1<<16-1)/3 {
		t.Fatalf("%d texts", len(all))
	}
	for _, s := range all {
		checkPath(t, s, isPath(s))
	}
}

// P7.1: each byte is one of a path's, but 00; / cuts, and . isn't alone.
func TestPathsOfEachByte(t *testing.T) {
	for v := range 256 {
		c := string([]byte{byte(v)})
		checkPath(t, c, v != 0 && v != '/' && v != '.')
		checkPath(t, c+c, v != 0 && v != '/' && v != '.')
		checkPath(t, "x"+c, v != 0 && v != '/')
		checkPath(t, c+"x", v != 0 && v != '/')
		checkPath(t, "x/"+c, v != 0 && v != '/' && v != '.')
		checkPath(t, c+"/x", v != 0 && v != '/' && v != '.')
		checkPath(t, "x"+c+"x", v != 0)
		checkPath(t, strings.Repeat("x", 100)+c+strings.Repeat("x", 99), v != 0)
	}
}

// P7.1: a path has 1 to 200 bytes.
func TestPathsOfEachLength(t *testing.T) {
	for n := range 420 {
		is := n >= 1 && n <= 200
		checkPath(t, strings.Repeat("x", n), is)
		checkPath(t, strings.Repeat(".", n), is && n > 2)
		deep := strings.Repeat("a/", n/2)
		checkPath(t, deep+"b", len(deep)+1 <= 200)
		checkPath(t, deep+"bc", len(deep)+2 <= 200)
		checkPath(t, deep, false)
	}
	// Bytes are counted, not letters.
	checkPath(t, strings.Repeat("ä", 100), true)
	checkPath(t, strings.Repeat("ä", 100)+"a", false)
	for _, s := range []string{"x", "/", "a/", "\x00", "../"} {
		checkPath(t, strings.Repeat(s, 1<<16), false)
	}
	checkPath(t, strings.Repeat("x", 199)+"\x00", false)
	checkPath(t, strings.Repeat("x", 198)+"/.", false)
	checkPath(t, strings.Repeat("x", 198)+"/a", true)
	checkPath(t, "a/"+strings.Repeat("x", 199), false)
}

// P7.1: the parent is what the library cuts off, and ends at a path without one.
func TestParents(t *testing.T) {
	for s, want := range map[string]string{"a/b": "a", "a/b/c": "a/b", "usr/share/doc/x": "usr/share/doc", ".a/..b": ".a", "a/...": "a", "\n/\n": "\n"} {
		if got, is := entry.Parent(s); got != want || !is {
			t.Errorf("%q: %q %v", s, got, is)
		}
	}
	for _, s := range []string{"", "a", "abc", "...", "/", "/a", "a/", "a//b", "a/../b", "a/b/", "./a", "a/.", "../b", "a\x00/b", "a/b\x00", "/a/b", strings.Repeat("x/", 100) + "x", strings.Repeat("x", 200)} {
		if got, is := entry.Parent(s); got != "" || is {
			t.Errorf("%q: %q %v", s, got, is)
		}
	}
	s := strings.Repeat("a/", 99) + "bc"
	for n := 99; n > 0; n-- {
		up, is := entry.Parent(s)
		if up != path.Dir(s) || !is || !entry.Path(up) || strings.Count(up, "/") != n-1 {
			t.Fatalf("%q: %q %v", s, up, is)
		}
		s = up
	}
	if up, is := entry.Parent(s); s != "a" || up != "" || is {
		t.Errorf("%q: %q %v", s, up, is)
	}
}
