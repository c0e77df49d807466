package deflate_test

import (
	"bytes"
	"math/rand/v2"
	"slices"
	"strings"
)

// lettersOf is n bytes of no order, of so many kinds, the greatest bytes.
func lettersOf(n, kinds int) []byte {
	random := rand.New(rand.NewPCG(uint64(n), uint64(kinds)))
	b := make([]byte, n)
	for i := range b {
		b[i] = byte(255 - random.IntN(kinds))
	}
	return b
}

// skewed is n bytes of no order, each kind half as often as the one ahead of it.
func skewed(n int) []byte {
	random := rand.New(rand.NewPCG(uint64(n), 6))
	b := make([]byte, n)
	for i := range b {
		for random.IntN(2) > 0 {
			b[i]++
		}
	}
	return b
}

// rows is n bytes: rows of the same byte, that are as long as they happen to be.
func rows(n int) []byte {
	random := rand.New(rand.NewPCG(uint64(n), 7))
	var b []byte
	for len(b) < n {
		b = append(b, bytes.Repeat([]byte{'a'}, random.IntN(70))...)
		b = append(b, byte(random.IntN(256)))
	}
	return b[:n]
}

// copies is n bytes, most of them copied from some distances, in lengths up to most.
func copies(n, most int, backs ...int) []byte {
	random := rand.New(rand.NewPCG(uint64(n), uint64(most)))
	b := lettersOf(slices.Max(backs), 256)
	for len(b) < n {
		back := backs[random.IntN(len(backs))]
		for range 3 + random.IntN(most-2) {
			b = append(b, b[len(b)-back])
		}
		b = append(b, byte(random.IntN(256)))
	}
	return b[:n]
}

// status is n bytes of a text such as databases are.
func status(n int) []byte {
	random := rand.New(rand.NewPCG(uint64(n), 8))
	names := []string{"libc6", "libgcc-s1", "perl-base", "zlib1g", "dpkg", "tar", "bash"}
	var b strings.Builder
	for b.Len() < n {
		name := names[random.IntN(len(names))]
		b.WriteString("Package: " + name + "\nStatus: install ok installed\nDepends: ")
		b.WriteString(names[random.IntN(len(names))] + " (>= " + string(rune('0'+random.IntN(10))) + "." + strings.Repeat("1", random.IntN(4)) + ")\n\n")
	}
	return []byte(b.String()[:n])
}

// texts is texts of many kinds, most of them longer than from how far back may be copied.
func texts() map[string][]byte {
	all := make([]byte, 256)
	for i := range all {
		all[i] = byte(i)
	}
	return map[string][]byte{
		"nothing":        nil,
		"zeros":          make([]byte, 70000),
		"all bytes":      all,
		"two letters":    lettersOf(70000, 2),
		"three letters":  lettersOf(70000, 3),
		"twelve letters": lettersOf(40000, 12),
		"bytes":          lettersOf(40000, 256),
		"skewed":         skewed(70000),
		"rows":           rows(70000),
		"near copies":    copies(30000, 9, 1, 2, 3, 4, 5, 7, 9, 13),
		"far copies":     copies(80000, 300, 1000, 8191, 20000, 32768),
		"status":         status(70000),
		"mixed":          slices.Concat(status(9000), lettersOf(9000, 256), rows(9000), make([]byte, 9000), status(9000)),
	}
}
