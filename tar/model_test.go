package tar_test

import (
	"fmt"
	"regexp"
	"slices"
	"strconv"
	"strings"
	"testing"

	"drayage/api"
	"drayage/entry"
	"drayage/tar"
)

const (
	ustar = "ustar\x0000"
	gnu   = "ustar  \x00"
)

var (
	empty = strings.Repeat("\x00", 512)
	end   = empty + empty
	zero8 = "0000000\x00"
)

// raw is a head as it may stand in an archive, field by field, and what stands behind it.
type raw struct {
	name, mode, uid, gid, size, mtime string
	sum, kind, link, magic            string
	owner, group, more, prefix, rest  string
	body, fill                        string
}

// octal is digits as they stand in a field.
func octal(n, digits int) string {
	s := strconv.FormatInt(int64(n), 8)
	return strings.Repeat("0", digits-len(s)) + s + "\x00"
}

// rawOf is a head with the numbers that it needs.
func rawOf(kind, name, body string) raw {
	fill := strings.Repeat("\x00", (512-len(body)%512)%512)
	return raw{name: name, mode: zero8, uid: zero8, gid: zero8, size: octal(len(body), 11), mtime: octal(0, 11), sum: "right", kind: kind, magic: ustar, more: zero8 + zero8, body: body, fill: fill}
}

// records is a head with records.
func records(all ...string) raw {
	return rawOf("x", "PaxHeaders", strings.Join(all, ""))
}

// rec is a record of a key and a value.
func rec(key, value string) string {
	s := " " + key + "=" + value + "\n"
	for n := range 9999999 {
		if len(strconv.Itoa(n))+len(s) == n {
			return strconv.Itoa(n) + s
		}
	}
	return ""
}

// head is the block of 512 bytes.
func (m raw) head() string {
	sizes := [16]int{100, 8, 8, 8, 12, 12, 8, 1, 100, 8, 32, 32, 16, 155, 12}
	s := ""
	for i, field := range []string{m.name, m.mode, m.uid, m.gid, m.size, m.mtime, "        ", m.kind, m.link, m.magic, m.owner, m.group, m.more, m.prefix, m.rest} {
		if len(field) > sizes[i] {
			panic("no room for " + field)
		}
		s += field + strings.Repeat("\x00", sizes[i]-len(field))
	}
	if m.sum == "right" {
		m.sum = octal(modelSum(s), 6) + " "
	}
	return s[:148] + m.sum + strings.Repeat("\x00", 8-len(m.sum)) + s[156:]
}

// modelSum is the sum of a head whose own sum's bytes are blanks.
func modelSum(s string) int {
	n := 0
	for i := range len(s) {
		n += int(s[i])
	}
	return n
}

// text is all as it stands.
func (m raw) text() string {
	return m.head() + m.body + m.fill
}

// archiveOf is heads and their bytes, and the two blocks.
func archiveOf(all ...raw) string {
	return pieces(all...) + end
}

// pieces is heads and their bytes alone.
func pieces(all ...raw) string {
	var s strings.Builder
	for _, m := range all {
		s.WriteString(m.text())
	}
	return s.String()
}

// modelName is a name as it is told in an archive.
func modelName(x api.Entry) string {
	if x.Kind == 2 {
		return x.Path + "/"
	}
	return x.Path
}

// modelPart is a name in two parts, if it has such.
func modelPart(name string) (ahead, behind string, is bool) {
	for i := range len(name) {
		if name[i] == '/' && len(name)-i-1 <= 100 {
			return name[:i], name[i+1:], i <= 155 && len(name)-i-1 >= 1
		}
	}
	return "", "", false
}

// modelHead is an entry's head, its texts cut.
func modelHead(x api.Entry) raw {
	m := rawOf(map[int]string{1: "0", 4: "1", 3: "2", 2: "5"}[x.Kind], cutTo100(modelName(x)), string(x.Data))
	m.link = cutTo100(x.Link)
	m.mode, m.uid, m.gid = octal(x.Mode, 7), octal(x.Uid, 7), octal(x.Gid, 7)
	m.mtime = octal(x.Mtime, 11)
	m.owner, m.group = x.Owner, x.Group
	return m
}

func cutTo100(s string) string {
	return s[:min(len(s), 100)]
}

// modelWrite is what Write should answer.
func modelWrite(l []api.Entry, style int) (string, api.Errno) {
	if style != 0 && style != 1 && style != 2 {
		return "", api.ErrArg
	}
	if _, e := entry.CheckAll(l); e != api.OK {
		return "", e
	}
	var all []raw
	for _, x := range l {
		name := modelName(x)
		m := modelHead(x)
		ahead, behind, parts := modelPart(name)
		if style != 1 && len(name) > 100 && parts {
			m.prefix, m.name = ahead, behind
		}
		switch {
		case style == 0 && (len(name) > 100 && !parts || len(x.Link) > 100):
			return "", api.ErrName
		case style == 1:
			m.magic = gnu
			for i, s := range []string{name, x.Link} {
				if len(s) > 100 {
					long := rawOf("LK"[i:i+1], "././@LongLink", s+"\x00")
					long.magic = gnu
					all = append(all, long)
				}
			}
		case style == 2:
			said := ""
			if len(name) > 100 && !parts {
				said += rec("path", name)
			}
			if len(x.Link) > 100 {
				said += rec("linkpath", x.Link)
			}
			if said != "" {
				all = append(all, records(said))
			}
		}
		all = append(all, m)
	}
	return archiveOf(all...), api.OK
}

var (
	octalField = regexp.MustCompile(`^ *([0-7]*)[ \x00]*$`)
	decimal    = regexp.MustCompile(`^(0|[1-9][0-9]*)$`)
	length     = regexp.MustCompile(`^[1-9][0-9]* `)
	parts      = regexp.MustCompile(`(?s)^([^=]*)=(.*)\n$`)
)

// modelNumber is the number in a field.
func modelNumber(s string) (int, api.Errno) {
	found := octalField.FindStringSubmatch(s)
	if found == nil {
		return 0, api.ErrForm
	}
	n, _ := strconv.ParseInt("0"+found[1], 8, 64)
	return int(n), api.OK
}

// modelDecimal is the number that a record tells.
func modelDecimal(s string) (int, api.Errno) {
	if !decimal.MatchString(s) {
		return 0, api.ErrForm
	}
	n, err := strconv.ParseInt(s, 10, 63)
	if err != nil {
		return 0, api.ErrLarge
	}
	return int(n), api.OK
}

// tells is what stood ahead of an entry.
type tells struct {
	at         []int             // of the heads
	kinds      string            // of the heads
	name, link []string          // of "L", "K": one or none
	texts      map[string]string // of "x"
	numbers    map[string]int
}

// modelRead is what Read should answer.
func modelRead(b string) ([]api.Entry, api.Fault) {
	var l []api.Entry
	var told tells
	for at := 0; ; {
		fault := func(e api.Errno) ([]api.Entry, api.Fault) { return nil, api.Fault{At: at, Code: e} }
		if len(b) < at+512 || b[at:at+512] == empty && len(b) < at+1024 {
			return fault(api.ErrShort)
		}
		if b[at:at+512] == empty {
			if b[at+512:at+1024] != empty {
				return fault(api.ErrForm)
			}
			if len(told.at) > 0 {
				at = told.at[0]
				return fault(api.ErrOrder)
			}
			return l, api.Fault{}
		}
		m, size, e := modelCut(b[at:], told)
		if e != api.OK {
			return fault(e)
		}
		if strings.Contains("LKx", m.kind) {
			e = told.take(m, at)
		} else {
			l = append(l, told.entry(m))
			_, e = entry.CheckAll(l)
			told = tells{}
		}
		if e != api.OK {
			return fault(e)
		}
		at += 512 + (size+511)/512*512
	}
}

// modelCut is the head at the beginning, its texts cut at a byte 00, and its bytes.
func modelCut(b string, told tells) (m raw, size int, e api.Errno) {
	cut := func(from, to int) string { return strings.SplitN(b[from:to], "\x00", 2)[0] }
	m = raw{name: cut(0, 100), mode: b[100:108], uid: b[108:116], gid: b[116:124], size: b[124:136], mtime: b[136:148]}
	m.kind, m.link, m.magic = b[156:157], cut(157, 257), b[257:265]
	m.owner, m.group, m.prefix = cut(265, 297), cut(297, 329), cut(345, 500)
	sum, e := modelNumber(b[148:156])
	if e != api.OK || sum != modelSum(b[:148]+"        "+b[156:512]) {
		return m, 0, api.ErrSum
	}
	if m.magic != ustar && m.magic != gnu {
		return m, 0, api.ErrForm
	}
	for _, s := range []string{m.mode, m.uid, m.gid, m.size, m.mtime} {
		if _, e := modelNumber(s); e != api.OK {
			return m, 0, e
		}
	}
	if !strings.Contains("0125LKx\x00", m.kind) {
		return m, 0, api.ErrKind
	}
	size, _ = modelNumber(m.size)
	if n, is := told.numbers["size"]; is && !strings.Contains("LKx", m.kind) {
		size = n
	}
	if strings.Contains(told.kinds, m.kind) || strings.Contains("125", m.kind) && size > 0 {
		return m, 0, api.ErrForm
	}
	if len(b) < 512+(size+511)/512*512 {
		return m, 0, api.ErrShort
	}
	m.body = b[512 : 512+size]
	return m, size, api.OK
}

// take takes what a "L", "K" or "x" tells.
func (told *tells) take(m raw, at int) api.Errno {
	told.at = append(told.at, at)
	told.kinds += m.kind
	if m.kind == "x" {
		return told.records(m.body)
	}
	text, _, is := strings.Cut(m.body, "\x00")
	if !is {
		return api.ErrForm
	}
	if m.kind == "L" {
		told.name = []string{text}
	} else {
		told.link = []string{text}
	}
	return api.OK
}

// records takes records.
func (told *tells) records(body string) api.Errno {
	told.texts, told.numbers = map[string]string{}, map[string]int{}
	for body != "" {
		digits := length.FindString(body)
		n, err := strconv.Atoi(strings.TrimSpace(digits))
		if digits == "" || err != nil || n > len(body) || n < len(digits) {
			return api.ErrForm
		}
		found := parts.FindStringSubmatch(body[len(digits):n])
		if found == nil {
			return api.ErrForm
		}
		switch found[1] {
		case "size", "uid", "gid", "mtime":
			n, e := modelDecimal(found[2])
			if e != api.OK {
				return e
			}
			told.numbers[found[1]] = n
		case "path", "linkpath", "uname", "gname", "comment":
			told.texts[found[1]] = found[2]
		default:
			return api.ErrKind
		}
		body = body[n:]
	}
	return api.OK
}

// entry is the entry that is told by a head and those ahead of it.
func (told *tells) entry(m raw) api.Entry {
	x := api.Entry{Path: m.name, Kind: map[string]int{"0": 1, "\x00": 1, "1": 4, "2": 3, "5": 2}[m.kind], Owner: m.owner, Group: m.group}
	if m.magic == ustar && m.prefix != "" {
		x.Path = m.prefix + "/" + m.name
	}
	x.Mode, _ = modelNumber(m.mode)
	x.Uid, _ = modelNumber(m.uid)
	x.Gid, _ = modelNumber(m.gid)
	x.Mtime, _ = modelNumber(m.mtime)
	x.Link = m.link
	for _, s := range told.name {
		x.Path = s
	}
	for _, s := range told.link {
		x.Link = s
	}
	for key, p := range map[string]*string{"path": &x.Path, "linkpath": &x.Link, "uname": &x.Owner, "gname": &x.Group} {
		if s, is := told.texts[key]; is {
			*p = s
		}
	}
	for key, p := range map[string]*int{"uid": &x.Uid, "gid": &x.Gid, "mtime": &x.Mtime} {
		if n, is := told.numbers[key]; is {
			*p = n
		}
	}
	if x.Kind == 2 && strings.HasSuffix(x.Path, "/") {
		x.Path = x.Path[:len(x.Path)-1]
	}
	if x.Kind < 3 {
		x.Link = ""
	}
	x.Data = []byte(m.body)
	return x
}

// brief is an archive's heads' first bytes, or the beginning of very many.
func brief(b string) string {
	short := regexp.MustCompile(`\x00{9,}`).ReplaceAllStringFunc(b, func(s string) string { return "<" + strconv.Itoa(len(s)) + " bytes 00>" })
	if len(short) > 900 {
		short = short[:900] + ".."
	}
	return strconv.Quote(short) + " (" + strconv.Itoa(len(b)) + ")"
}

// checkEntries holds entries against those that should be there.
func checkEntries(t *testing.T, what string, is, want []api.Entry) {
	t.Helper()
	if len(is) != len(want) {
		t.Errorf("%s: %d entries, not %d", what, len(is), len(want))
		return
	}
	for i := range is {
		if !entry.Same(is[i:i+1], want[i:i+1]) {
			t.Errorf("%s: entry %d is %.900s, not %.900s", what, i, shown(is[i]), shown(want[i]))
		}
	}
}

// checkRead reads what is right.
func checkRead(t *testing.T, b string, want ...api.Entry) {
	t.Helper()
	l, f := tar.Read([]byte(b))
	if f != (api.Fault{}) {
		t.Errorf("%s: %v", brief(b), f)
	}
	checkEntries(t, "read", l, want)
}

// checkFault reads what isn't right: nothing stands beside the fault.
func checkFault(t *testing.T, what, b string, at int, code api.Errno) {
	t.Helper()
	l, f := tar.Read([]byte(b))
	if want := (api.Fault{At: at, Code: code}); len(l) != 0 || f != want {
		t.Errorf("%s: %s: %d entries, %v, not %v", what, brief(b), len(l), f, want)
	}
}

// checkReadModel holds Read against the model, and answers the error.
func checkReadModel(t *testing.T, b string) api.Errno {
	t.Helper()
	want, wantFault := modelRead(b)
	l, f := tar.Read([]byte(b))
	if f != wantFault {
		t.Errorf("%s: %v, not %v", brief(b), f, wantFault)
	}
	checkEntries(t, "read", l, want)
	return f.Code
}

// checkWriteModel holds Write against the model, and reads what was written.
func checkWriteModel(t *testing.T, l []api.Entry, style int) api.Errno {
	t.Helper()
	want, wantCode := modelWrite(l, style)
	b, e := tar.Write(l, style)
	if string(b) != want || e != wantCode {
		t.Errorf("%d entries, style %d: %s %d, not %s %d", len(l), style, brief(string(b)), e, brief(want), wantCode)
	}
	if e == api.OK {
		checkRead(t, string(b), l...)
	}
	return e
}

// checkCame tells of errors that should have come, and didn't.
func checkCame(t *testing.T, came map[api.Errno]int, least int, want ...api.Errno) {
	t.Helper()
	for _, code := range want {
		if came[code] < least {
			t.Errorf("%d came %d times: %v", code, came[code], came)
		}
	}
	for code := range came {
		if !slices.Contains(want, code) {
			t.Errorf("%d came: %v", code, came)
		}
	}
}

// shown is an entry, as a test tells of it.
func shown(x api.Entry) string {
	return fmt.Sprintf("%+v of %d bytes", api.Entry{Path: strconv.Quote(x.Path), Kind: x.Kind, Mode: x.Mode, Uid: x.Uid, Gid: x.Gid, Owner: strconv.Quote(x.Owner), Group: strconv.Quote(x.Group), Mtime: x.Mtime, Link: strconv.Quote(x.Link)}, len(x.Data))
}
