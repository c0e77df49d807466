package codec_test

import (
	"bytes"
	"testing"

	"drayage/codec"
)

// takers is each call that takes bytes, and what it answers as a text.
func takers() map[string]func(b []byte) string {
	return map[string]func(b []byte) string{
		"Hex":    codec.Hex,
		"Base64": codec.Base64,
		"GetBe": func(b []byte) string {
			n, _ := codec.GetBe(b, 0, len(b))
			return codec.Dec(int(n))
		},
		"GetLe": func(b []byte) string {
			n, _ := codec.GetLe(b, 0, len(b))
			return codec.Dec(int(n))
		},
	}
}

// P1.7: what is handed in stays, and so does what lies behind its length; an answer doesn't change with it.
func TestWhatIsHandedInStays(t *testing.T) {
	for name, take := range takers() {
		for size := range 8 {
			was := []byte{1, 2, 3, 4, 5, 6, 7, 8, 9, 10, 11, 12}
			b := bytes.Clone(was)
			answer := take(b[:size])
			if !bytes.Equal(b, was) {
				t.Errorf("%s of %d bytes left %x", name, size, b)
			}
			if again := take(b[:size:size]); again != answer {
				t.Errorf("%s of %d bytes hangs on what lies behind them", name, size)
			}
			copied := string([]byte(answer))
			clear(b)
			if answer != copied {
				t.Errorf("%s of %d bytes kept them", name, size)
			}
		}
	}
}

// givers is each call that answers bytes.
func givers() map[string]func() []byte {
	return map[string]func() []byte{
		"Unhex": func() []byte {
			b, _ := codec.Unhex("0123456789abcdef")
			return b
		},
		"Unbase64": func() []byte {
			b, _ := codec.Unbase64("AQIDBAU=")
			return b
		},
		"Be": func() []byte { return codec.Be(0x0102030405060708, 8) },
		"Le": func() []byte { return codec.Le(0x0102030405060708, 8) },
	}
}

// P1.7: an answer may be written over and grown: the next one, and one that came ahead, are as they were.
func TestWhatIsAnsweredIsNew(t *testing.T) {
	for name, give := range givers() {
		want := bytes.Clone(give())
		kept := give()
		spoilt := give()
		clear(spoilt[:cap(spoilt)])
		_ = append(spoilt, 9, 9, 9)
		if len(want) == 0 || !bytes.Equal(kept, want) || !bytes.Equal(give(), want) {
			t.Errorf("%s: answers share memory", name)
		}
	}
}
