package frame_test

import (
	"bytes"
	"math/rand"
	"slices"
	"testing"

	"conciliator/frame"
)

func TestScanOfNone(t *testing.T) {
	scanned(t, nil, nil, 0)
	scanned(t, []byte{}, nil, 0)
	scanned(t, framed([]byte("ab"))[:0], nil, 0)
	for _, b := range [][]byte{{0}, {1}, make([]byte, 7), make([]byte, 8), make([]byte, 100), []byte("no frame"), bytes.Repeat([]byte{0xff}, 50)} {
		scanned(t, b, nil, 0)
	}
}

func TestScanOfOne(t *testing.T) {
	for _, b := range append(samples(), lengthy()...) {
		scanned(t, framed(b), [][]byte{b}, len(b)+8)
	}
}

func TestScanOfSeveral(t *testing.T) {
	scanned(t, row(nil, []byte("ab")), [][]byte{nil, []byte("ab")}, 18)
	scanned(t, row([]byte("ab"), nil), [][]byte{[]byte("ab"), nil}, 18)
	scanned(t, row(nil, nil, nil), [][]byte{nil, nil, nil}, 24)
	scanned(t, row([]byte("a"), []byte("a"), []byte("b"), []byte("a")), [][]byte{{'a'}, {'a'}, {'b'}, {'a'}}, 36)
	for _, all := range [][][]byte{samples(), lengthy()} {
		scanned(t, row(all...), all, len(row(all...)))
	}
	r := rand.New(rand.NewSource(21))
	for many := range 200 {
		all := several(r, many)
		scanned(t, row(all...), all, len(row(all...)))
	}
}

// A frame that stands in what a frame holds is none of those that stand one behind the other.
func TestScanOfFramesInFrames(t *testing.T) {
	b := row([]byte("a"), []byte("b"))
	scanned(t, framed(b), [][]byte{b}, len(b)+8)
	scanned(t, row(b, framed(b), nil), [][]byte{b, framed(b), nil}, 3*8+2*len(b)+8)
}

// cut says that each front of frames is a front of what they hold.
func cut(t *testing.T, all [][]byte) {
	t.Helper()
	b := row(all...)
	whole, end := 0, 0
	for i := range len(b) + 1 {
		if whole < len(all) && i == end+8+len(all[whole]) {
			whole, end = whole+1, i
		}
		scanned(t, b[:i:i], all[:whole], end)
		scanned(t, b[:i], all[:whole], end)
	}
	if whole != len(all) || end != len(b) {
		t.Errorf("of %d frames %d are whole", len(all), whole)
	}
}

func TestScanCutAtEachPlace(t *testing.T) {
	cut(t, nil)
	cut(t, [][]byte{nil})
	cut(t, [][]byte{nil, nil, nil})
	cut(t, [][]byte{[]byte("a"), []byte("bc"), nil, []byte("def"), framed([]byte("x"))})
	cut(t, samples())
	r := rand.New(rand.NewSource(22))
	for range 100 {
		cut(t, several(r, r.Intn(12)))
	}
}

func TestScanWithNoFrameBehind(t *testing.T) {
	r := rand.New(rand.NewSource(23))
	wrong := framed([]byte("abc"))
	wrong[10] ^= 1
	for range 100 {
		all := several(r, r.Intn(8))
		b := row(all...)
		for _, behind := range [][]byte{{0}, {1, 2}, make([]byte, 7), make([]byte, 8), []byte("something else"), framed([]byte("ab"))[:9], framed([]byte("ab"))[1:], wrong, plain(3, []byte("ab")), framed(make([]byte, most+1))} {
			scanned(t, slices.Concat(b, behind), all, len(b))
			// What stands behind that is not come to.
			scanned(t, slices.Concat(b, behind, make([]byte, 90)), all, len(b))
			scanned(t, slices.Concat(b, behind, framed([]byte("abcd"))), all, len(b))
		}
	}
}

// One byte of one of several is another one: those ahead of it are told, and none behind it.
func TestScanOfAnotherByte(t *testing.T) {
	r := rand.New(rand.NewSource(24))
	for range 100 {
		all := several(r, 1+r.Intn(8))
		b := row(all...)
		end := 0
		for i, held := range all {
			for at := end; at < end+8+len(held); at++ {
				was := b[at]
				b[at] ^= byte(1 + r.Intn(255))
				scanned(t, b, all[:i], end)
				b[at] = was
			}
			end += 8 + len(held)
		}
	}
}

// Lengths of which an int of 32 bits makes numbers below nought, or nought together with a head, lead nowhere.
func TestScanOfTooGreatLengths(t *testing.T) {
	for _, n := range lengths {
		for _, b := range [][]byte{nil, []byte("ab"), make([]byte, 300)} {
			scanned(t, plain(n, b), nil, 0)
			scanned(t, slices.Concat(row(nil, []byte("a")), plain(n, b), row(nil)), [][]byte{nil, {'a'}}, 17)
		}
	}
}

// Scan is Open again and again.
func TestScanIsOpen(t *testing.T) {
	r := rand.New(rand.NewSource(25))
	for range 500 {
		b := row(several(r, r.Intn(10))...)
		b = slices.Concat(b, chance(r, r.Intn(20)))
		if len(b) > 0 && r.Intn(2) == 0 {
			b[r.Intn(len(b))]++
		}
		var want [][]byte
		end := 0
		for {
			held, long, e := frame.Open(b[end:])
			if e != 0 {
				break
			}
			want, end = append(want, held), end+long
		}
		scanned(t, b, want, end)
	}
}

// As many as a disk has room for.
func TestScanOfVeryMany(t *testing.T) {
	const many = 1 << 17
	scanned(t, bytes.Repeat(framed(nil), many), make([][]byte, many), 8*many)
	b := make([]byte, most)
	scanned(t, bytes.Repeat(framed(b), 17), slices.Repeat([][]byte{b}, 17), 17*(most+8))
}
