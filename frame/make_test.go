package frame_test

import (
	"bytes"
	"encoding/binary"
	"hash/crc32"
	"math/rand"
	"testing"

	"conciliator/api"
	"conciliator/frame"
)

const most = 60000

// plain is the frame of some bytes as the chapter's words make it, told to hold that many, to be held
// against what is built: it is one, if so many bytes they are.
func plain(many uint32, b []byte) []byte {
	four := binary.BigEndian.AppendUint32(nil, many)
	sum := crc32.ChecksumIEEE(append(four[:4:4], b...))
	return append(binary.BigEndian.AppendUint32(four, sum), b...)
}

// framed is that of just these bytes.
func framed(b []byte) []byte { return plain(uint32(len(b)), b) }

// plainOpen is what a frame holds that some bytes begin with, and how long it is; false: they don't.
func plainOpen(b []byte) ([]byte, int, bool) {
	if len(b) < 8 {
		return nil, 0, false
	}
	many := uint64(binary.BigEndian.Uint32(b))
	if many > most || many+8 > uint64(len(b)) {
		return nil, 0, false
	}
	held := b[8 : 8+many]
	return held, len(held) + 8, bytes.Equal(framed(held), b[:8+many])
}

// plainScan are the frames some bytes begin with, one behind the other.
func plainScan(b []byte) ([][]byte, int) {
	held, long, ok := plainOpen(b)
	if !ok {
		return nil, 0
	}
	all, end := plainScan(b[long:])
	return append([][]byte{held}, all...), long + end
}

// row are frames, one behind the other.
func row(all ...[]byte) []byte {
	var out []byte
	for _, b := range all {
		out = append(out, framed(b)...)
	}
	return out
}

// brief is so much of bytes as can be read.
func brief(b []byte) []byte { return b[:min(len(b), 60)] }

// hold holds Open and Scan of some bytes against the chapter's words, and says whether they begin with a frame.
func hold(t *testing.T, b []byte) bool {
	t.Helper()
	held, long, e := frame.Open(b)
	want, wantLong, ok := plainOpen(b)
	if !ok {
		refused(t, b)
	} else if e != api.OK || long != wantLong || !bytes.Equal(held, want) {
		t.Errorf("Open(% x) is % x, %d, %d, not % x, %d", brief(b), brief(held), long, e, brief(want), wantLong)
	}
	all, end := plainScan(b)
	scanned(t, b, all, end)
	return ok
}

// opened says that Open of some bytes is the one thing that is held, with nothing wrong.
func opened(t *testing.T, b, want []byte) {
	t.Helper()
	held, long, e := frame.Open(b)
	if e != api.OK || long != len(want)+8 || !bytes.Equal(held, want) {
		t.Errorf("Open(% x), %d bytes, is % x, %d, %d, not % x", brief(b), len(b), brief(held), long, e, brief(want))
	}
}

// refused says that some bytes don't begin with a frame: they are ErrFrame, and nothing beside it.
func refused(t *testing.T, b []byte) {
	t.Helper()
	if held, long, e := frame.Open(b); e != api.ErrFrame || long != 0 || len(held) > 0 {
		t.Errorf("Open(% x), %d bytes, is % x, %d, %d", brief(b), len(b), brief(held), long, e)
	}
	scanned(t, b, nil, 0)
}

// scanned says that Scan of some bytes is that.
func scanned(t *testing.T, b []byte, want [][]byte, wantEnd int) {
	t.Helper()
	all, end := frame.Scan(b)
	if end != wantEnd || len(all) != len(want) {
		t.Errorf("Scan(% x), %d bytes, are %d, %d, not %d, %d", brief(b), len(b), len(all), end, len(want), wantEnd)
		return
	}
	for i, held := range all {
		if !bytes.Equal(held, want[i]) {
			t.Errorf("Scan(% x): %d is % x, not % x", brief(b), i, brief(held), brief(want[i]))
		}
	}
}

// chance is so many bytes by chance.
func chance(r *rand.Rand, many int) []byte {
	b := make([]byte, many)
	r.Read(b)
	return b
}

// several are so many lists of bytes by chance; some of them are empty, and some are frames themselves.
func several(r *rand.Rand, many int) [][]byte {
	var out [][]byte
	for range many {
		b := chance(r, r.Intn(3)*r.Intn(20))
		if r.Intn(4) == 0 {
			b = framed(b)
		}
		out = append(out, b)
	}
	return out
}

// samples are bytes such as stand in frames.
func samples() [][]byte {
	r := rand.New(rand.NewSource(1))
	out := [][]byte{nil, {}, {0}, {0xff}, []byte("ab"), make([]byte, 4), make([]byte, 8), bytes.Repeat([]byte{0xff}, 8), []byte("123456789"),
		framed(nil), framed([]byte("ab")), row([]byte("a"), nil, []byte("b"))}
	for many := range 40 {
		out = append(out, chance(r, many))
	}
	return append(out, chance(r, 255), chance(r, 256), chance(r, 257), chance(r, 300))
}

// lengthy are bytes about the greatest length that a frame has, and about those that fit fewer bytes.
func lengthy() [][]byte {
	r := rand.New(rand.NewSource(2))
	var out [][]byte
	for _, many := range []int{4096, 20000, 32767, 32768, 32769, 59000, 59991, 59992, 59993, most - 1, most} {
		out = append(out, chance(r, many))
	}
	return append(out, make([]byte, most))
}
