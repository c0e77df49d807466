package deflate

const (
	leastRun = 3 // bytes
	mostRun  = 258
	farthest = 1 << 15       // from how far back a run may be copied
	nowhere  = -farthest - 1 // too far back of each place
)

// Of a short text nothing may be missed that comes again; of a longer one it would take too long to look at more than a few places for each run.
const (
	shortText = 16000 // bytes
	fewPlaces = 256
)

// start is the bytes with which a run begins.
type start [leastRun]byte

// finder finds bytes that stood already ahead of a place.
type finder struct {
	b     []byte
	last  map[start]int // of the places that were added and aren't too far back, the last one with such bytes
	ahead []int         // of each of these places, by turns: the last one ahead of it with the same bytes
	tries int           // how many places are looked at for a run
}

func newFinder(b []byte) *finder {
	f := &finder{
		b:     b,
		last:  map[start]int{},
		ahead: make([]int, min(len(b), farthest)),
		tries: fewPlaces,
	}
	if len(b) <= shortText {
		f.tries = len(b)
	}
	return f
}

// eachRun hands on the runs: where one begins, how many bytes it has, and how far back the same ones stand.
func eachRun(b []byte, hand func(at, length, back int)) {
	f := newFinder(b)
	for at := 0; at < len(b); {
		length, back := f.longest(at)
		if length > 0 {
			hand(at, length, back)
		}
		for range max(length, 1) {
			f.add(at)
			at++
		}
	}
}

// longest is the longest run at a place, from the nearest place; its length is 0 if there is none.
func (f *finder) longest(at int) (length, back int) {
	most := min(mostRun, len(f.b)-at)
	place := f.lastLike(at)
	for range f.tries {
		if at-place > farthest || length == most {
			break
		}
		if n := f.alike(place, at, most); n > length {
			length, back = n, at-place
		}
		place = f.ahead[place%len(f.ahead)]
	}
	return length, back
}

// alike is how many bytes are the same at two places, up to most.
func (f *finder) alike(one, other, most int) int {
	n := 0
	for n < most && f.b[one+n] == f.b[other+n] {
		n++
	}
	return n
}

// lastLike is the last place that was added at which a run begins as at this one.
func (f *finder) lastLike(at int) int {
	if s, ok := f.start(at); ok {
		if place, ok := f.last[s]; ok {
			return place
		}
	}
	return nowhere
}

// add makes a place one of those that are found, and forgets the one that is too far back behind it.
func (f *finder) add(at int) {
	old := at - farthest
	if s, ok := f.start(old); ok && f.last[s] == old {
		delete(f.last, s)
	}
	if s, ok := f.start(at); ok {
		f.ahead[at%len(f.ahead)] = f.lastLike(at)
		f.last[s] = at
	}
}

// start is the bytes with which a run at a place would begin, if there are as many.
func (f *finder) start(at int) (start, bool) {
	var s start
	if at < 0 || len(f.b)-at < leastRun {
		return s, false
	}
	copy(s[:], f.b[at:])
	return s, true
}
