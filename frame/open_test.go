package frame_test

import (
	"encoding/binary"
	"math/rand"
	"slices"
	"testing"

	"conciliator/frame"
)

func TestOpenOfEachFrame(t *testing.T) {
	r := rand.New(rand.NewSource(11))
	for _, b := range append(samples(), lengthy()...) {
		w, _ := frame.Wrap(b)
		opened(t, w, b)
		for _, behind := range [][]byte{{0}, {0xff}, make([]byte, 8), []byte("behind"), w, framed(nil), framed([]byte("x")), chance(r, 50), chance(r, 70000)} {
			opened(t, slices.Concat(w, behind), b)
		}
	}
}

func TestOpenOfNothing(t *testing.T) {
	refused(t, nil)
	refused(t, []byte{})
	refused(t, framed(nil)[:0])
}

func TestOpenOfEachFront(t *testing.T) {
	for _, b := range samples() {
		w := framed(b)
		for i := range w {
			refused(t, w[:i:i])
		}
		opened(t, w, b)
	}
	for _, b := range lengthy() {
		w := framed(b)
		for _, i := range []int{0, 1, 3, 4, 5, 7, 8, 9, len(w) / 2, len(w) - 9, len(w) - 8, len(w) - 2, len(w) - 1} {
			refused(t, w[:i:i])
		}
	}
}

// What lies behind the length of a list is none of its bytes, though a whole frame may stand there.
func TestOpenOfFrontInItsMemory(t *testing.T) {
	for _, b := range samples() {
		w := framed(b)
		for i := range w {
			refused(t, w[:i])
		}
		opened(t, slices.Concat(w, []byte("behind"))[:len(w)], b)
	}
}

func TestOpenOfEachBack(t *testing.T) {
	for _, b := range [][]byte{nil, []byte("a"), []byte("ab"), []byte("123456789")} {
		w := framed(b)
		for i := 1; i <= len(w); i++ {
			refused(t, w[i:])
		}
	}
}

// Any one byte of a frame is another one: each other one there is.
func TestAnotherByte(t *testing.T) {
	for _, b := range samples() {
		w := framed(b)
		for i, was := range w {
			for x := 1; x < 256; x++ {
				w[i] = was ^ byte(x)
				refused(t, w)
			}
			w[i] = was
		}
		opened(t, w, b)
	}
}

func TestAnotherByteOfMany(t *testing.T) {
	r := rand.New(rand.NewSource(12))
	for _, b := range lengthy() {
		w := framed(b)
		places := []int{0, 1, 2, 3, 4, 5, 6, 7, 8, 9, 255, 256, len(w) - 2, len(w) - 1}
		for range 20 {
			places = append(places, r.Intn(len(w)))
		}
		for _, i := range places {
			was := w[i]
			w[i] ^= byte(1 + r.Intn(255))
			refused(t, w)
			w[i] = was
		}
	}
}

// With something behind, another length may still be there: the sum tells that it is another one.
func TestAnotherByteWithMoreBehind(t *testing.T) {
	behind := framed(make([]byte, 30000))
	for _, b := range samples() {
		w := slices.Concat(framed(b), behind)
		for i, was := range w[:len(b)+8] {
			for _, x := range []byte{1, 2, 0x80, 0xff} {
				w[i] = was ^ x
				if hold(t, w) {
					t.Errorf("another byte at %d of the frame of % x", i, b)
				}
			}
			w[i] = was
		}
	}
}

// Its sum is that of the length, too: with another length, and the sum of what is held then alone, it is none.
func TestSumOfOtherThings(t *testing.T) {
	for _, b := range samples() {
		four := framed(b)[:4:4]
		behind := [][]byte{plain(0, slices.Concat(b, four))[4:8], plain(uint32(len(b)), nil)[4:8], framed(nil)[4:8], make([]byte, 4), {0xff, 0xff, 0xff, 0xff}}
		right := framed(b)[4:8:8]
		upside := slices.Clone(right)
		slices.Reverse(upside)
		turned := binary.BigEndian.AppendUint32(nil, ^binary.BigEndian.Uint32(right))
		for _, sum := range append(behind, upside, turned) {
			if !slices.Equal(sum, right) {
				refused(t, slices.Concat(four, sum, b))
			}
		}
		opened(t, slices.Concat(four, right, b), b)
	}
}

// lengths are greater than any frame's, and than what fits two bytes, or an int of 32 bits.
var lengths = []uint32{most + 1, most + 2, most + 8, 65535, 65536, 65537, 65546, 70000, 1 << 20, 1<<24 - 1, 1 << 24, 1<<24 + 3,
	1<<31 - 9, 1<<31 - 8, 1<<31 - 1, 1 << 31, 1<<31 + 1, 1<<31 + 3, 1<<31 + most, 3 << 30, 1<<32 - most, 1<<32 - 16, 1<<32 - 9, 1<<32 - 8, 1<<32 - 7, 1<<32 - 4, 1<<32 - 2, 1<<32 - 1}

// The sum is that of such a length and of what stands behind, whatever one might take for what is held.
func TestTooGreatLengths(t *testing.T) {
	r := rand.New(rand.NewSource(13))
	for _, n := range lengths {
		for _, many := range []int{0, 1, 3, 4, 8, 9, 10, 100, int(n & 0xff), int(n & 0xffff), int(n & 0xffff % most), int(-n & 0xffff), most} {
			b := chance(r, many)
			refused(t, plain(n, b))
			refused(t, slices.Concat(plain(n, b), framed([]byte("ab"))))
		}
	}
}

// All that is told is there, and the sum is right; but it is more than a frame holds.
func TestTooLongFrames(t *testing.T) {
	for _, many := range []int{most + 1, most + 2, most + 8, 65535, 65536, 65537, 70000, 1 << 20} {
		refused(t, framed(make([]byte, many)))
		refused(t, slices.Concat(framed(make([]byte, many)), framed([]byte("ab"))))
	}
	opened(t, framed(make([]byte, most)), make([]byte, most))
}

// The length is greater than what is there by one, and by more, and the sum is that of what is there.
func TestLengthsOfMoreThanIsThere(t *testing.T) {
	for _, b := range append(samples(), lengthy()...) {
		for _, more := range []int{1, 2, 3, 4, 7, 8, 9, 255, 256, 1000, most - len(b)} {
			if more > 0 {
				refused(t, plain(uint32(len(b)+more), b))
			}
		}
	}
}

// The length is less than what the sum is of.
func TestLengthsOfLessThanIsThere(t *testing.T) {
	for _, b := range samples() {
		for less := 1; less <= len(b); less++ {
			refused(t, plain(uint32(len(b)-less), b))
		}
	}
}

// The greatest byte stands first: the other way round it is another length.
func TestLengthsTheOtherWayRound(t *testing.T) {
	for _, many := range []int{1, 2, 200, 256, 300, 512} {
		four := binary.LittleEndian.AppendUint32(nil, uint32(many))
		b := make([]byte, many)
		refused(t, plain(binary.BigEndian.Uint32(four), b))
	}
}

func TestOpenByChance(t *testing.T) {
	r := rand.New(rand.NewSource(14))
	for range 20000 {
		b := chance(r, r.Intn(40))
		opened(t, slices.Concat(framed(b), chance(r, r.Intn(20))), b)
		hold(t, b)
	}
}
