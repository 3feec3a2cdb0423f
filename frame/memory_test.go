package frame_test

import (
	"bytes"
	"math/rand"
	"slices"
	"testing"
	"unsafe"

	"conciliator/frame"
)

// share says whether two lists have memory of which a byte is both's, behind their lengths too.
func share(a, b []byte) bool {
	if cap(a) == 0 || cap(b) == 0 {
		return false
	}
	from, other := uintptr(unsafe.Pointer(unsafe.SliceData(a))), uintptr(unsafe.Pointer(unsafe.SliceData(b)))
	return from < other+uintptr(cap(b)) && other < from+uintptr(cap(a))
}

// rows are lists of bytes with more behind their lengths: frames, fronts of them, and others.
func rows() [][]byte {
	r := rand.New(rand.NewSource(31))
	out := [][]byte{nil, {}, make([]byte, 0, 40)}
	for range 200 {
		b := slices.Concat(row(several(r, r.Intn(6))...), chance(r, r.Intn(30)))
		out = append(out, b[:r.Intn(len(b)+1)], b)
	}
	for _, b := range samples() {
		out = append(out, slices.Concat(framed(b), framed(b))[:len(b)+8], slices.Concat(b, framed(b))[:len(b)])
	}
	return append(out, append(samples(), lengthy()...)...)
}

// answers are all lists that calls answer of some bytes.
func answers(b []byte) [][]byte {
	w, _ := frame.Wrap(b)
	held, _, _ := frame.Open(b)
	all, _ := frame.Scan(b)
	return append([][]byte{w, held}, all...)
}

func TestNothingIsChanged(t *testing.T) {
	for _, b := range rows() {
		was := slices.Clone(b[:cap(b)])
		answers(b)
		if !bytes.Equal(b[:cap(b)], was) {
			t.Errorf("% x is changed", brief(was))
		}
	}
}

// No answer shares memory with what was handed in, nor with another one.
func TestNothingIsShared(t *testing.T) {
	for _, b := range rows() {
		all := append(answers(b), answers(b)...)
		for i, x := range all {
			if share(x, b) {
				t.Errorf("% x: answer %d shares its memory", brief(b), i)
			}
			for j, y := range all[:i] {
				if share(x, y) {
					t.Errorf("% x: answers %d and %d share memory", brief(b), j, i)
				}
			}
		}
	}
}

// fill makes all bytes of a list others, behind its length too.
func fill(b []byte) {
	b = b[:cap(b)]
	for i := range b {
		b[i] ^= 0x55
	}
}

// What comes to be of an answer is seen nowhere else, nor what comes to be of what was handed in.
func TestNothingIsKept(t *testing.T) {
	for _, b := range rows() {
		b = slices.Clone(b)
		was, all := slices.Clone(b), answers(b)
		var copies [][]byte
		for _, x := range all {
			copies = append(copies, slices.Clone(x))
		}
		fill(b)
		for i, x := range all {
			if !bytes.Equal(x, copies[i]) {
				t.Errorf("% x: answer %d is another one now", brief(was), i)
			}
			fill(x)
		}
		fill(b)
		if !bytes.Equal(b, was) {
			t.Errorf("% x is another one now", brief(was))
		}
		for i, x := range answers(b) {
			if !bytes.Equal(x, copies[i]) {
				t.Errorf("% x: answer %d is another one the second time", brief(was), i)
			}
		}
	}
}

// What lies behind a list's length says nothing, and is not handed out.
func TestBehindTheLength(t *testing.T) {
	for _, b := range rows() {
		want := answers(b[:len(b):len(b)])
		for i, x := range answers(b) {
			if !bytes.Equal(x, want[i]) {
				t.Errorf("% x: answer %d hangs on what lies behind", brief(b), i)
			}
			if behind := x[len(x):cap(x)]; !bytes.Equal(behind, make([]byte, len(behind))) {
				t.Errorf("% x: behind answer %d lies % x", brief(b), i, behind)
			}
		}
		if len(answers(b)) != len(want) {
			t.Errorf("% x: Scan hangs on what lies behind", brief(b))
		}
	}
}

// What is laid behind one answer goes over no other one.
func TestLaidBehindAnAnswer(t *testing.T) {
	all, _ := frame.Scan(row([]byte("abc"), nil, []byte("de"), []byte("f")))
	for i := range all {
		_ = append(all[i], "xyz"...)
	}
	if !slices.EqualFunc(all, [][]byte{[]byte("abc"), nil, []byte("de"), []byte("f")}, bytes.Equal) {
		t.Errorf("%q", all)
	}
	_ = append(all[:1], []byte("over"))
	again, _ := frame.Scan(row([]byte("abc"), nil))
	if string(again[0]) != "abc" || len(again[1]) != 0 {
		t.Errorf("%q", again)
	}
}
