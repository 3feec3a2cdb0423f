package sum_test

import (
	"math/rand"
	"slices"
	"testing"

	"conciliator/sum"
)

// others says that each other byte at a place has another sum, and no two of them the same.
func others(t *testing.T, b []byte, at int) {
	t.Helper()
	had := map[uint32]byte{}
	c := slices.Clone(b)
	for x := range 256 {
		c[at] = byte(x)
		n := sum.Sum(c)
		if y, ok := had[n]; ok {
			t.Fatalf("%x: %02x and %02x at %d have one sum, %08x", b, x, y, at, n)
		}
		had[n] = byte(x)
	}
}

func TestOtherByteAtEachPlace(t *testing.T) {
	r := rand.New(rand.NewSource(11))
	for many := 1; many <= 40; many++ {
		b := chance(r, many)
		for at := range b {
			others(t, b, at)
		}
	}
}

func TestOtherByteOfTheSame(t *testing.T) {
	for _, x := range []byte{0, 1, 0x7f, 0x80, 0xff} {
		for many := 1; many <= 12; many++ {
			for at := range many {
				others(t, slices.Repeat([]byte{x}, many), at)
			}
		}
	}
}

func TestOtherByteOfMany(t *testing.T) {
	b := chance(rand.New(rand.NewSource(12)), 9000)
	for _, at := range []int{0, 1, 255, 256, 4095, 4500, 8998, 8999} {
		others(t, b, at)
	}
}

func TestOtherByteInEachList(t *testing.T) {
	r := rand.New(rand.NewSource(13))
	for range 300 {
		lists := cut(r, chance(r, 1+r.Intn(30)))
		n := sum.Sum(lists...)
		for _, list := range lists {
			for i, was := range list {
				list[i] ^= byte(1 + r.Intn(255))
				if sum.Sum(lists...) == n {
					t.Fatalf("%x: another byte in a list, the same sum %08x", lists, n)
				}
				list[i] = was
			}
		}
	}
}

// behind says that a byte behind changes the sum, and another one otherwise.
func behind(t *testing.T, b []byte) {
	t.Helper()
	had := map[uint32]int{sum.Sum(b): -1}
	for x := range 256 {
		n := sum.Sum(b, []byte{byte(x)})
		if y, ok := had[n]; ok {
			t.Fatalf("%x: with %02x behind it, it has the sum of that with %d behind it, %08x", b, x, y, n)
		}
		had[n] = x
	}
}

func TestByteBehind(t *testing.T) {
	behind(t, nil)
	for i := range 256 {
		behind(t, []byte{byte(i)})
	}
	r := rand.New(rand.NewSource(14))
	for range 2000 {
		behind(t, chance(r, r.Intn(50)))
	}
}

// Noughts behind bytes of which no bit is left are the chapter's words' exception:
// they leave the sum as it is; each other byte there changes it.
func TestByteBehindThatLeavesTheSum(t *testing.T) {
	b := []byte{0xff, 0xff, 0xff, 0xff}
	want(t, 0xffffffff, b)
	want(t, 0xffffffff, b, []byte{0})
	want(t, 0xffffffff, b, make([]byte, 100))
	for x := 1; x < 256; x++ {
		if sum.Sum(b, []byte{byte(x)}) == 0xffffffff {
			t.Errorf("%02x leaves the sum, too", x)
		}
	}
}
