package frame_test

import (
	"bytes"
	"encoding/binary"
	"math/rand"
	"testing"

	"conciliator/api"
	"conciliator/frame"
	"conciliator/sum"
)

// wrapped says that Wrap of some bytes is that.
func wrapped(t *testing.T, b, want []byte) {
	t.Helper()
	if got, e := frame.Wrap(b); e != api.OK || !bytes.Equal(got, want) {
		t.Errorf("Wrap(% x), %d bytes, is % x, %d, not % x", brief(b), len(b), brief(got), e, brief(want))
	}
}

// The chapter's example.
func TestExample(t *testing.T) {
	wrapped(t, nil, []byte{0, 0, 0, 0, 0x21, 0x44, 0xdf, 0x1c})
	wrapped(t, []byte{}, []byte{0, 0, 0, 0, 0x21, 0x44, 0xdf, 0x1c})
	wrapped(t, []byte("ab")[:0], []byte{0, 0, 0, 0, 0x21, 0x44, 0xdf, 0x1c})
}

// Laid by hand: the sums are those of another program.
func TestWrapToTheByte(t *testing.T) {
	wrapped(t, []byte{0}, []byte{0, 0, 0, 1, 0xdf, 0x39, 0xc6, 0x5c, 0})
	wrapped(t, []byte("a"), []byte{0, 0, 0, 1, 0xe5, 0x8c, 0x97, 0x92, 'a'})
	wrapped(t, []byte("ab"), []byte{0, 0, 0, 2, 0x6d, 0x1c, 0x2f, 0x5f, 'a', 'b'})
}

func TestWrapOfAnyLength(t *testing.T) {
	for _, b := range append(samples(), lengthy()...) {
		wrapped(t, b, framed(b))
	}
	r := rand.New(rand.NewSource(3))
	for many := range 1000 {
		b := chance(r, many)
		wrapped(t, b, framed(b))
	}
}

func TestWrapOfEachByte(t *testing.T) {
	for i := range 256 {
		b := []byte{byte(i)}
		wrapped(t, b, framed(b))
	}
}

// A frame's parts, one by one: the length, the sum of it and of what is held, and that.
func TestParts(t *testing.T) {
	for _, b := range append(samples(), lengthy()...) {
		w, _ := frame.Wrap(b)
		if len(w) != len(b)+8 {
			t.Fatalf("the frame of %d bytes is %d long", len(b), len(w))
		}
		if n := binary.BigEndian.Uint32(w); int(n) != len(b) {
			t.Errorf("the frame of %d bytes says %d", len(b), n)
		}
		if got, want := binary.BigEndian.Uint32(w[4:]), sum.Sum(w[:4], b); got != want {
			t.Errorf("the sum in the frame of %d bytes is %08x, not %08x", len(b), got, want)
		}
		if !bytes.Equal(w[8:], b) {
			t.Errorf("the frame of %d bytes holds others", len(b))
		}
	}
}

func TestWrapErrLimit(t *testing.T) {
	wrapped(t, make([]byte, most), framed(make([]byte, most)))
	for _, many := range []int{most + 1, most + 2, most + 8, 65535, 65536, 65537, 70000, 131072, 1 << 20} {
		if b, e := frame.Wrap(make([]byte, many)); e != api.ErrLimit || len(b) > 0 {
			t.Errorf("Wrap of %d bytes is %d bytes, %d", many, len(b), e)
		}
	}
}

// What is the same has the same frame, whenever it is asked for.
func TestWrapAgain(t *testing.T) {
	for _, b := range samples() {
		wrapped(t, []byte("else"), framed([]byte("else")))
		wrapped(t, b, framed(b))
	}
}
