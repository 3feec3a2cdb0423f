package sum_test

import (
	"hash/crc32"
	"math/rand"
	"slices"
	"testing"

	"conciliator/sum"
)

// plainSum is the chapter's words, bit by bit, to be held against what is built.
func plainSum(lists ...[]byte) uint32 {
	n := uint32(0xffffffff)
	for _, list := range lists {
		for _, b := range list {
			n ^= uint32(b)
			for range 8 {
				out := n%2 == 1
				n /= 2
				if out {
					n ^= 0xedb88320
				}
			}
		}
	}
	return n ^ 0xffffffff
}

// chance is so many bytes by chance.
func chance(r *rand.Rand, many int) []byte {
	b := make([]byte, many)
	r.Read(b)
	return b
}

// cut cuts bytes into lists at places by chance; some of them are empty, or nil.
func cut(r *rand.Rand, b []byte) [][]byte {
	var out [][]byte
	for len(b) > 0 || r.Intn(3) > 0 {
		n := min(r.Intn(8), len(b))
		if n == 0 && r.Intn(2) == 0 {
			out = append(out, nil)
			continue
		}
		out = append(out, slices.Clone(b[:n]))
		b = b[n:]
	}
	return out
}

// want says that lists have one sum: that one.
func want(t *testing.T, sums uint32, lists ...[]byte) {
	t.Helper()
	if got := sum.Sum(lists...); got != sums {
		t.Errorf("Sum of %d lists, %x: %08x, want %08x", len(lists), slices.Concat(lists...), got, sums)
	}
}

func TestPlainIsTheSumOfIEEE(t *testing.T) {
	r := rand.New(rand.NewSource(1))
	for many := range 300 {
		b := chance(r, many)
		if plainSum(b) != crc32.ChecksumIEEE(b) {
			t.Fatalf("the chapter's sum of %x is %08x, the library's %08x", b, plainSum(b), crc32.ChecksumIEEE(b))
		}
	}
}
