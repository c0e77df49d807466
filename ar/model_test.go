package ar_test

import (
	"bytes"
	"regexp"
	"strconv"
	"strings"
	"testing"

	"drayage/api"
	"drayage/ar"
)

const magic = "!<arch>\n"

var (
	decimal = regexp.MustCompile(`^(0|[1-9][0-9]*) *$`)
	octal   = regexp.MustCompile(`^(0|[1-7][0-7]*) *$`)
	tabled  = regexp.MustCompile(`^/(0|[1-9][0-9]*)$`)
	ahead   = regexp.MustCompile(`^#1/(0|[1-9][0-9]*)$`)
	named   = regexp.MustCompile(`^[^/\x00\n]{1,200}$`)
)

// modelCheck is what Check should answer, as the chapter tells it.
func modelCheck(x api.Item) api.Errno {
	// Bytes above 7f are told by 7f: the pattern counts runes.
	name := ""
	for _, b := range []byte(x.Name) {
		name += string(rune(min(b, 0x7f)))
	}
	if !named.MatchString(name) || name[0] == ' ' || name[len(name)-1] == ' ' {
		return api.ErrName
	}
	for _, n := range [][2]int{{x.Mtime, 8589934591}, {x.Uid, 999999}, {x.Gid, 999999}, {x.Mode, 0o7777}} {
		if n[0] < 0 || n[0] > n[1] {
			return api.ErrArg
		}
	}
	if len(x.Data) > 1048576 {
		return api.ErrLarge
	}
	return api.OK
}

// raw is a member as it may stand in an archive, field by field.
type raw struct {
	name, mtime, uid, gid, mode, size, end string
	body, pad                              string
}

// rawOf is a member with the numbers that it needs.
func rawOf(name, body string) raw {
	m := raw{name, "0", "0", "0", "0", strconv.Itoa(len(body)), "\x60\n", body, ""}
	if len(body)%2 == 1 {
		m.pad = "\n"
	}
	return m
}

// tableOf is a table as it should stand.
func tableOf(body string) raw {
	m := rawOf("//", body)
	m.mtime, m.uid, m.gid, m.mode = "", "", "", ""
	return m
}

// text is the member as it stands.
func (m raw) text() string {
	s := ""
	for i, field := range []string{m.name, m.mtime, m.uid, m.gid, m.mode, m.size} {
		s += field
		for len(s) < []int{16, 28, 34, 40, 48, 58}[i] {
			s += " "
		}
	}
	return s + m.end + m.body + m.pad
}

// archiveOf is members, one behind the other.
func archiveOf(all ...raw) string {
	s := magic
	for _, m := range all {
		s += m.text()
	}
	return s
}

// modelWrite is what Write should answer.
func modelWrite(l []api.Item, style int) (string, api.Errno) {
	if style != 0 && style != 1 && style != 2 {
		return "", api.ErrArg
	}
	if len(l) > 4096 {
		return "", api.ErrLarge
	}
	for _, x := range l {
		if e := modelCheck(x); e != api.OK {
			return "", e
		}
	}
	var out strings.Builder
	table := ""
	for _, x := range l {
		m := rawOf(x.Name, string(x.Data))
		switch {
		case style == 0 && len(x.Name) > 16:
			return "", api.ErrName
		case style == 1 && (len(x.Name) > 15 || x.Name == "#1"):
			m.name = "/" + strconv.Itoa(len(table))
			table += x.Name + "/\n"
		case style == 1:
			m.name += "/"
		case style == 2 && (len(x.Name) > 16 || strings.Contains(x.Name, " ")):
			m = rawOf("#1/"+strconv.Itoa(len(x.Name)), x.Name+string(x.Data))
		}
		m.mtime, m.uid, m.gid = strconv.Itoa(x.Mtime), strconv.Itoa(x.Uid), strconv.Itoa(x.Gid)
		m.mode = strconv.FormatInt(int64(x.Mode), 8)
		out.WriteString(m.text())
	}
	if table != "" {
		return magic + tableOf(table).text() + out.String(), api.OK
	}
	return magic + out.String(), api.OK
}

// modelRead is what Read should answer.
func modelRead(b string) ([]api.Item, api.Fault) {
	if len(b) < 8 || b[:8] != magic {
		return nil, api.Fault{Code: api.ErrForm}
	}
	var l []api.Item
	var table *string
	for at := 8; at < len(b); {
		if len(l) == 4096 {
			return nil, api.Fault{At: at, Code: api.ErrLarge}
		}
		m, e := modelCut(b[at:])
		if e == api.OK && m.name == "//              " {
			if at > 8 {
				e = api.ErrOrder
			} else if strings.Trim(m.mtime+m.uid+m.gid+m.mode, " ") != "" {
				e = api.ErrForm
			}
			table = &m.body
		} else if e == api.OK {
			var x api.Item
			x, e = modelItem(m, table)
			l = append(l, x)
		}
		if e != api.OK {
			return nil, api.Fault{At: at, Code: e}
		}
		at += len(m.text())
	}
	return l, api.Fault{}
}

// modelCut is the member at the beginning, its fields with their blanks.
func modelCut(b string) (m raw, e api.Errno) {
	if len(b) < 60 {
		return m, api.ErrShort
	}
	m = raw{name: b[:16], mtime: b[16:28], uid: b[28:34], gid: b[34:40], mode: b[40:48], size: b[48:58], end: b[58:60]}
	if m.end != "\x60\x0a" || !decimal.MatchString(m.size) {
		return m, api.ErrForm
	}
	size, _ := strconv.Atoi(strings.TrimSpace(m.size))
	if len(b) < 60+size+size&1 {
		return m, api.ErrShort
	}
	m.body, m.pad = b[60:60+size], b[60+size:60+size+size&1]
	if m.pad != "" && m.pad != "\n" {
		return m, api.ErrForm
	}
	return m, api.OK
}

// modelItem is what a member tells that is no table.
func modelItem(m raw, table *string) (x api.Item, e api.Errno) {
	if !decimal.MatchString(m.mtime) || !decimal.MatchString(m.uid) || !decimal.MatchString(m.gid) || !octal.MatchString(m.mode) {
		return x, api.ErrForm
	}
	x.Mtime, _ = strconv.Atoi(strings.TrimSpace(m.mtime))
	x.Uid, _ = strconv.Atoi(strings.TrimSpace(m.uid))
	x.Gid, _ = strconv.Atoi(strings.TrimSpace(m.gid))
	mode, _ := strconv.ParseInt(strings.TrimSpace(m.mode), 8, 64)
	x.Mode = int(mode)
	name := strings.TrimRight(m.name, " ")
	x.Name, x.Data = name, []byte(m.body)
	switch {
	case tabled.MatchString(name):
		place, _ := strconv.Atoi(name[1:])
		if table == nil {
			return x, api.ErrOrder
		}
		if place >= len(*table) || !strings.Contains((*table)[place:], "/\n") {
			return x, api.ErrForm
		}
		x.Name = strings.Split((*table)[place:], "/\n")[0]
	case strings.HasPrefix(name, "/"):
		return x, api.ErrKind
	case ahead.MatchString(name):
		size, _ := strconv.Atoi(name[3:])
		if size > len(m.body) {
			return x, api.ErrShort
		}
		x.Name, x.Data = m.body[:size], []byte(m.body[size:])
	case strings.HasPrefix(name, "#1/"):
		return x, api.ErrForm
	case strings.HasSuffix(name, "/"):
		x.Name = name[:len(name)-1]
	}
	return x, modelCheck(x)
}

func same(a, b api.Item) bool {
	if !bytes.Equal(a.Data, b.Data) {
		return false
	}
	return a.Name == b.Name && a.Mtime == b.Mtime && a.Uid == b.Uid && a.Gid == b.Gid && a.Mode == b.Mode
}

// brief is bytes, or the beginning of very many.
func brief(b string) string {
	if len(b) > 300 {
		return strconv.Quote(b[:300]) + ".. (" + strconv.Itoa(len(b)) + ")"
	}
	return strconv.Quote(b)
}

// checkItems holds items against those that should be there.
func checkItems(t *testing.T, what string, is, want []api.Item) {
	t.Helper()
	if len(is) != len(want) {
		t.Errorf("%s: %d items, not %d", what, len(is), len(want))
		return
	}
	for i, x := range is {
		if y := want[i]; !same(x, y) {
			t.Errorf("%s: item %d is %q %d %d %d %o %s, not %q %d %d %d %o %s", what, i, x.Name, x.Mtime, x.Uid, x.Gid, x.Mode, brief(string(x.Data)), y.Name, y.Mtime, y.Uid, y.Gid, y.Mode, brief(string(y.Data)))
		}
	}
}

// checkRead reads what is right.
func checkRead(t *testing.T, b string, want ...api.Item) {
	t.Helper()
	l, f := ar.Read([]byte(b))
	if f != (api.Fault{}) {
		t.Errorf("%s: %v", brief(b), f)
	}
	checkItems(t, brief(b), l, want)
}

// checkFault reads what isn't right: nothing stands beside the fault.
func checkFault(t *testing.T, what, b string, at int, code api.Errno) {
	t.Helper()
	l, f := ar.Read([]byte(b))
	if want := (api.Fault{At: at, Code: code}); len(l) != 0 || f != want {
		t.Errorf("%s: %s: %d items, %v, not %v", what, brief(b), len(l), f, want)
	}
}

// checkReadModel holds Read against the model, and answers the error.
func checkReadModel(t *testing.T, b string) api.Errno {
	t.Helper()
	want, wantFault := modelRead(b)
	l, f := ar.Read([]byte(b))
	if wantFault != (api.Fault{}) {
		want = nil
	}
	if f != wantFault {
		t.Errorf("%s: %v, not %v", brief(b), f, wantFault)
	}
	checkItems(t, brief(b), l, want)
	return f.Code
}

// checkWriteModel holds Write against the model, and reads what was written.
func checkWriteModel(t *testing.T, l []api.Item, style int) {
	t.Helper()
	want, wantCode := modelWrite(l, style)
	b, e := ar.Write(l, style)
	if string(b) != want || e != wantCode {
		t.Errorf("%d items, style %d: %s %d, not %s %d", len(l), style, brief(string(b)), e, brief(want), wantCode)
	}
	if e == api.OK {
		checkRead(t, string(b), l...)
	}
}
