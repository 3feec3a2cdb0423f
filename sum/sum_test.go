package sum_test

import (
	"bytes"
	"math/rand"
	"slices"
	"testing"

	"conciliator/sum"
)

const digits = 0xcbf43926

func TestExamples(t *testing.T) {
	want(t, digits, []byte("123456789"))
	want(t, 0)
}

func TestNothing(t *testing.T) {
	none, empty := []byte(nil), []byte{}
	want(t, 0, [][]byte(nil)...)
	want(t, 0, [][]byte{}...)
	want(t, 0, nil)
	want(t, 0, none)
	want(t, 0, empty)
	want(t, 0, none, empty, none, none, empty)
	want(t, 0, []byte("123456789")[:0], []byte("123456789")[9:])
}

func TestNothingBesideBytes(t *testing.T) {
	for _, none := range [][]byte{nil, {}, []byte("abc")[:0]} {
		want(t, digits, none, []byte("123456789"))
		want(t, digits, []byte("123456789"), none)
		want(t, digits, []byte("1234"), none, []byte("56789"))
		want(t, digits, none, none, []byte("1"), none, none, []byte("23456789"), none, none)
	}
}

func TestWordsOfIEEE(t *testing.T) {
	want(t, 0xe8b7be43, []byte("a"))
	want(t, 0x352441c2, []byte("abc"))
	want(t, 0x414fa339, []byte("The quick brown fox jumps over the lazy dog"))
	want(t, 0xd202ef8d, []byte{0})
	want(t, 0x2144df1c, make([]byte, 4))
	want(t, 0x190a55ad, make([]byte, 32))
	want(t, 0xff6cab0b, bytes.Repeat([]byte{0xff}, 32))
}

func TestOneByte(t *testing.T) {
	had := map[uint32]int{}
	for i := range 256 {
		b := []byte{byte(i)}
		n := sum.Sum(b)
		want(t, plainSum(b), b)
		if j, ok := had[n]; ok {
			t.Errorf("Sum of %02x is that of %02x: %08x", i, j, n)
		}
		had[n] = i
	}
}

func TestTwoBytes(t *testing.T) {
	for i := range 1 << 16 {
		b := []byte{byte(i >> 8), byte(i)}
		want(t, plainSum(b), b)
		want(t, plainSum(b), b[:1], b[1:])
	}
}

func TestOneListByChance(t *testing.T) {
	r := rand.New(rand.NewSource(2))
	for many := range 600 {
		for range 10 {
			b := chance(r, many)
			want(t, plainSum(b), b)
		}
	}
}

func TestManyListsByChance(t *testing.T) {
	r := rand.New(rand.NewSource(3))
	for range 3000 {
		lists := make([][]byte, r.Intn(20))
		for i := range lists {
			lists[i] = chance(r, r.Intn(3)*r.Intn(20))
		}
		want(t, plainSum(lists...), lists...)
	}
}

func TestCutAtEachPlace(t *testing.T) {
	b := []byte("123456789")
	for i := range len(b) + 1 {
		for j := i; j <= len(b); j++ {
			want(t, digits, b[:i], b[i:j], b[j:])
		}
	}
}

func TestCutByChance(t *testing.T) {
	r := rand.New(rand.NewSource(4))
	for range 2000 {
		b := chance(r, r.Intn(60))
		want(t, sum.Sum(b), cut(r, b)...)
	}
}

func TestListOfEachByte(t *testing.T) {
	b := chance(rand.New(rand.NewSource(5)), 5000)
	want(t, sum.Sum(b), slices.Collect(slices.Chunk(b, 1))...)
}

func TestLong(t *testing.T) {
	r := rand.New(rand.NewSource(6))
	for _, many := range []int{4095, 4096, 59000, 60000, 60008, 65535, 65536, 65537, 1 << 20} {
		b := chance(r, many)
		want(t, plainSum(b), b)
		want(t, plainSum(b), b[:4], b[4:])
	}
}

// Lists that go round are other bytes: what stands ahead says something.
func TestOrder(t *testing.T) {
	a, b := []byte("1234"), []byte("56789")
	if sum.Sum(a, b) == sum.Sum(b, a) {
		t.Error("Sum of two lists is that of the other way round")
	}
}

// The sum hangs on nothing but what is given.
func TestAgain(t *testing.T) {
	for range 100 {
		want(t, digits, []byte("123456789"))
		want(t, 0)
		want(t, 0xd202ef8d, []byte{0})
	}
}

func FuzzSum(f *testing.F) {
	f.Add([]byte("1234"), []byte("56789"))
	f.Add([]byte(nil), []byte{0xff, 0xff, 0xff, 0xff})
	f.Fuzz(func(t *testing.T, a, b []byte) {
		want(t, plainSum(a, b), a, b)
		want(t, plainSum(a, b), slices.Concat(a, b))
	})
}
