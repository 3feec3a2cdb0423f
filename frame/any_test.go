package frame_test

import (
	"encoding/binary"
	"math/rand"
	"slices"
	"testing"

	"conciliator/frame"
)

// No bytes make a call panic; each ends, and answers what the words say.
func TestAnyBytes(t *testing.T) {
	r := rand.New(rand.NewSource(41))
	for range 20000 {
		b := chance(r, r.Intn(60))
		hold(t, b)
		for i := range b {
			b[i] &= byte(r.Intn(4))
		}
		hold(t, b)
		wrapped(t, b, framed(b))
	}
}

// Bytes that are made of frames, of heads with any length, and of pieces of them.
func TestAnyParts(t *testing.T) {
	r := rand.New(rand.NewSource(42))
	frames := 0
	for range 50000 {
		var b []byte
		for range r.Intn(6) {
			held := chance(r, r.Intn(12))
			switch r.Intn(8) {
			case 0:
				b = append(b, plain(lengths[r.Intn(len(lengths))], held)...)
			case 1:
				b = append(b, plain(uint32(r.Intn(20)), held)...)
			case 2:
				b = binary.BigEndian.AppendUint32(b, r.Uint32()>>r.Intn(32))
			default:
				b = append(b, framed(held)...)
			}
		}
		if len(b) > 0 && r.Intn(3) == 0 {
			i := r.Intn(len(b))
			b = slices.Delete(b, i, min(i+r.Intn(3), len(b)))
		}
		if hold(t, b) {
			frames++
		}
	}
	if frames < 20000 || frames > 45000 {
		t.Errorf("%d begin with a frame", frames)
	}
}

// All short rows of bytes that say something.
func TestAllShortBytes(t *testing.T) {
	some := []byte{0, 1, 0x21, 0x44, 0xdf, 0x1c}
	var all func(b []byte, more int)
	all = func(b []byte, more int) {
		hold(t, b)
		for _, c := range some[:len(some)*min(more, 1)] {
			all(append(b[:len(b):len(b)], c), more-1)
		}
	}
	all(nil, 5)
	all([]byte{0, 0, 0, 0}, 5)
}

// Each length of two bytes, with no more than a head, and with some bytes.
func TestEachLength(t *testing.T) {
	b := make([]byte, 64)
	for n := range uint32(1 << 16) {
		hold(t, plain(n, nil))
		hold(t, plain(n, b[:n%64]))
	}
}

func FuzzFrame(f *testing.F) {
	f.Add([]byte(nil))
	f.Add(row(nil, []byte("ab"), []byte("123456789")))
	f.Add(plain(1<<32-8, nil))
	f.Fuzz(func(t *testing.T, b []byte) {
		hold(t, b)
		if len(b) <= most {
			wrapped(t, b, framed(b))
			opened(t, slices.Concat(framed(b), b), b)
			return
		}
		if w, e := frame.Wrap(b); e != 3 || len(w) > 0 {
			t.Errorf("Wrap of %d bytes is %d bytes, %d", len(b), len(w), e)
		}
	})
}
