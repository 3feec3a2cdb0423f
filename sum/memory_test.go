package sum_test

import (
	"bytes"
	"math/rand"
	"slices"
	"testing"
	"unsafe"

	"conciliator/sum"
)

// untouched says that lists, and what lies behind their lengths, are as they were.
func untouched(t *testing.T, lists [][]byte) {
	t.Helper()
	all := lists[:cap(lists)]
	heads := slices.Clone(all)
	var was [][]byte
	for _, list := range all {
		was = append(was, slices.Clone(list[:cap(list)]))
	}
	sum.Sum(lists...)
	for i, list := range all {
		if !same(list, heads[i]) {
			t.Errorf("list %d is another one", i)
		}
		if !bytes.Equal(list[:cap(list)], was[i]) {
			t.Errorf("list %d is changed", i)
		}
	}
}

// same says whether two lists are one, in the same memory.
func same(a, b []byte) bool {
	return len(a) == len(b) && cap(a) == cap(b) && unsafe.SliceData(a) == unsafe.SliceData(b)
}

func TestNothingIsChanged(t *testing.T) {
	r := rand.New(rand.NewSource(21))
	untouched(t, nil)
	untouched(t, [][]byte{nil, {}, nil})
	for range 500 {
		b := chance(r, 40)
		lists := [][]byte{b[:r.Intn(20)]}
		for range r.Intn(10) {
			lists = append(lists, chance(r, 20)[:r.Intn(20)])
		}
		lists = append(lists, nil, []byte{}, []byte("abc"))
		untouched(t, lists)
		untouched(t, lists[:len(lists)-r.Intn(3)])
		untouched(t, lists[:0])
	}
}

// Lists that share memory are summed as if each had its own.
func TestSharedMemory(t *testing.T) {
	r := rand.New(rand.NewSource(22))
	for range 1000 {
		b := chance(r, 30)
		var lists, own [][]byte
		for range r.Intn(6) {
			i := r.Intn(len(b))
			j := i + r.Intn(len(b)-i+1)
			lists = append(lists, b[i:j])
			own = append(own, slices.Clone(b[i:j]))
		}
		untouched(t, lists)
		want(t, plainSum(own...), lists...)
	}
}

func TestSameListTwice(t *testing.T) {
	b := []byte("abc")
	want(t, sum.Sum([]byte("abcabcabc")), b, b, b)
	untouched(t, [][]byte{b, b, b})
}

// What lies behind a length, of bytes and of lists, says nothing.
func TestBehindTheLength(t *testing.T) {
	b := []byte("123456789abc")
	want(t, digits, b[:9])
	copy(b[9:], "xyz")
	want(t, digits, b[:9])
	want(t, digits, b[:4], b[4:9])
	lists := [][]byte{b[:9], b[9:]}
	want(t, digits, lists[:1]...)
}

// What was handed in is not kept: changed, it has another sum.
func TestNothingIsKept(t *testing.T) {
	b := []byte("123456789")
	want(t, digits, b)
	b[8] = '0'
	want(t, plainSum(b), b)
	b[8] = '9'
	want(t, digits, b)
}
