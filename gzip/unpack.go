package gzip

import (
	"bytes"

	"drayage/api"
	"drayage/codec"
	"drayage/digest"
	"drayage/inflate"
)

const (
	headSize       = 10
	methodPlace    = 2
	flagsPlace     = 3
	timePlace      = 4
	unknown        = 32 | 64 | 128 // flags that aren't set
	extraCountSize = 2
	headSumSize    = 2
	firstLook      = 4096 // of how many bytes packed ones are unpacked first
)

// Unpack is the members that stand there.
func Unpack(b []byte, most int) ([]api.Member, api.Fault) {
	if most < 0 || most > api.MaxOut {
		return nil, api.Fault{Code: api.ErrArg}
	}
	var all []api.Member
	// The first member must be there, even of nothing.
	for at := 0; at == 0 || at < len(b); {
		r := &reader{b: b[at:]}
		m, e := r.member(most)
		if e != api.OK {
			return nil, api.Fault{At: at, Code: e}
		}
		all = append(all, m)
		most -= len(m.Data)
		at += r.at
	}
	return all, api.Fault{}
}

// reader reads a member, part by part.
type reader struct {
	b  []byte // begins with the member
	at int    // behind the parts that were read
}

// member reads all parts; its data may have so many bytes.
func (r *reader) member(room int) (api.Member, api.Errno) {
	flags, mtime, e := r.head()
	if e != api.OK {
		return api.Member{}, e
	}
	name, e := r.told(flags)
	if e != api.OK {
		return api.Member{}, e
	}
	data, e := r.data(room)
	if e != api.OK {
		return api.Member{}, e
	}
	if e := r.tail(data); e != api.OK {
		return api.Member{}, e
	}
	return api.Member{Name: name, Mtime: mtime, Data: data}, api.OK
}

// head reads what each member has ahead of what its flags tell.
func (r *reader) head() (flags byte, mtime int, e api.Errno) {
	b, e := r.take(headSize)
	switch {
	case e != api.OK:
		return 0, 0, e
	case b[0] != firstByte || b[1] != secondByte:
		return 0, 0, api.ErrForm
	case b[methodPlace] != deflated:
		return 0, 0, api.ErrMethod
	case b[flagsPlace]&unknown != 0:
		return 0, 0, api.ErrForm
	}
	seconds, _ := codec.GetLe(b, timePlace, timeSize)
	return b[flagsPlace], int(seconds), api.OK
}

// told reads the parts that the flags tell, and answers the name.
func (r *reader) told(flags byte) (name string, e api.Errno) {
	if flags&hasExtra != 0 {
		e = r.extra()
	}
	if e == api.OK && flags&hasName != 0 {
		name, e = r.name()
	}
	if e == api.OK && flags&hasComment != 0 {
		_, e = r.text()
	}
	if e == api.OK && flags&hasSum != 0 {
		e = r.headSum()
	}
	return name, e
}

// extra reads bytes that say nothing, but how many they are.
func (r *reader) extra() api.Errno {
	b, e := r.take(extraCountSize)
	if e != api.OK {
		return e
	}
	n, _ := codec.GetLe(b, 0, extraCountSize)
	_, e = r.take(int(n))
	return e
}

func (r *reader) name() (string, api.Errno) {
	b, e := r.text()
	if e != api.OK {
		return "", e
	}
	if len(b) > api.MaxPath {
		return "", api.ErrName
	}
	return string(b), api.OK
}

// headSum reads the sum of all that is ahead of it.
func (r *reader) headSum() api.Errno {
	sum := digest.Crc(r.b[:r.at])
	b, e := r.take(headSumSize)
	if e != api.OK {
		return e
	}
	if !bytes.Equal(b, codec.Le(uint64(sum), headSumSize)) {
		return api.ErrSum
	}
	return api.OK
}

// data reads packed bytes, and answers what they unpack to.
func (r *reader) data(room int) ([]byte, api.Errno) {
	rest := r.b[r.at:]
	// What Inflate is handed is copied, all of it: of many small members, all bytes would be for each. So it is handed a few of them, and more when these end too early.
	for look := firstLook; ; look *= 4 {
		some := rest[:min(look, len(rest))]
		data, used, e := inflate.Inflate(some, room)
		if e == api.ErrShort && len(some) < len(rest) {
			continue
		}
		r.at += used
		return data, e
	}
}

// tail reads what stands behind the packed bytes of data.
func (r *reader) tail(data []byte) api.Errno {
	b, e := r.take(tailSize)
	if e != api.OK {
		return e
	}
	var told [tailSize]byte
	copy(told[:], b)
	if told != tail(data) {
		return api.ErrSum
	}
	return api.OK
}

// take reads so many bytes.
func (r *reader) take(n int) ([]byte, api.Errno) {
	if len(r.b)-r.at < n {
		return nil, api.ErrShort
	}
	b := r.b[r.at : r.at+n]
	r.at += n
	return b, api.OK
}

// text reads bytes up to a byte 00, and this; it answers those ahead of it.
func (r *reader) text() ([]byte, api.Errno) {
	n := bytes.IndexByte(r.b[r.at:], 0)
	if n < 0 {
		return nil, api.ErrShort
	}
	b := r.b[r.at : r.at+n]
	r.at += n + 1
	return b, api.OK
}
