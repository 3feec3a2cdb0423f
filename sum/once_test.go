package sum

import (
	"slices"
	"sync"
	"testing"
)

// atOnce calls as often as many say, all at the same time, and tells what each answered.
func atOnce(many int, call func(i int) uint32) []uint32 {
	out := make([]uint32, many)
	start := make(chan struct{})
	var all sync.WaitGroup
	for i := range many {
		all.Go(func() {
			<-start
			out[i] = call(i)
		})
	}
	close(start)
	all.Wait()
	return out
}

// words is bytes of which each list is another one.
func words(i int) []byte { return []byte{byte(i), 'a', byte(i * 7), 0xff, byte(255 - i)} }

// steps are the chapter's eight steps of a byte, to be held against what is laid up.
func steps(b int) uint32 {
	n := uint32(b)
	for range 8 {
		out := n%2 == 1
		n /= 2
		if out {
			n ^= 0xedb88320
		}
	}
	return n
}

// laid says that of each byte what the eight steps make is laid up.
func laid(t *testing.T, s *sums) {
	t.Helper()
	for b, n := range s.of {
		if n != steps(b) {
			t.Errorf("of %02x %08x is laid up, want %08x", b, n, steps(b))
		}
	}
}

// Each of those who come first at the same time finds all laid up.
func TestFirstCallsAtTheSameTime(t *testing.T) {
	for range 500 {
		s := &sums{}
		for i, n := range atOnce(32, func(i int) uint32 { return s.sum([][]byte{words(i), words(i * i)}) }) {
			if want := Sum(words(i), words(i*i)); n != want {
				t.Fatalf("sum of %x and %x is %08x, want %08x", words(i), words(i*i), n, want)
			}
		}
		if s.made.Load() != 32 {
			t.Fatalf("of 32 sums %d were counted", s.made.Load())
		}
		laid(t, s)
	}
}

// What was laid up is laid up no more: what it is made to be, it stays.
func TestLaidUpOnce(t *testing.T) {
	s := &sums{}
	if s.of[1] != 0 {
		t.Error("it is there ahead of the first sum")
	}
	s.sum(nil)
	laid(t, s)
	s.of = [256]uint32{}
	s.sum(nil)
	s.sum([][]byte{words(1)})
	atOnce(32, func(i int) uint32 { return s.sum([][]byte{words(i)}) })
	if s.of != [256]uint32{} {
		t.Error("it was laid up twice")
	}
}

// Laid goes by the variable: what it has of each byte is there from the first call on.
func TestKept(t *testing.T) {
	Laid()
	laid(t, &kept)
	was := kept.of
	defer func() { kept.of = was }()
	clear(kept.of[:])
	if n := Laid([]byte{1}); n != ^uint32(0xffffff) {
		t.Errorf("Laid of 01 is %08x, with noughts in the variable", n)
	}
}

func TestSumsAreCounted(t *testing.T) {
	was := kept.made.Load()
	Laid()
	Laid(nil)
	Laid([]byte("1234"), []byte("56789"))
	if now := kept.made.Load(); now != was+3 {
		t.Errorf("of 3 sums %d were counted", now-was)
	}
	atOnce(64, func(i int) uint32 {
		for range 99 {
			Laid(words(i))
		}
		return Laid()
	})
	if now := kept.made.Load(); now != was+3+6400 {
		t.Errorf("of 6400 sums %d were counted", now-was-3)
	}
}

// Whatever the variable has, Sum is the same, and leaves it as it is.
func TestSumsWithoutTheVariable(t *testing.T) {
	Laid()
	was := kept.of
	defer func() { kept.of = was }()
	for i := range 3000 {
		lists := [][]byte{words(i), nil, words(i / 7), words(i * i)[:i%6]}
		kept.of = was
		want := Laid(lists...)
		for b := range kept.of {
			kept.of[b] *= uint32(i % 4)
		}
		of, made := kept.of, kept.made.Load()
		if n := Sum(lists...); n != want {
			t.Fatalf("Sum of %x is %08x with others in the variable, want %08x", lists, n, want)
		}
		if kept.of != of || kept.made.Load() != made {
			t.Fatal("Sum changed the variable")
		}
	}
	if n := Sum([]byte("123456789")); n != 0xcbf43926 {
		t.Errorf("Sum of 123456789 is %08x with others in the variable", n)
	}
}

// Neither Sum, nor what Sum calls, names the variable, nor anything of it; Laid does.
func TestSumNamesNoVariable(t *testing.T) {
	names := reached(t, "Sum")
	for _, n := range []string{"kept", "sums", "once", "made", "sync", "atomic"} {
		if slices.Contains(names, n) {
			t.Errorf("Sum comes to %s", n)
		}
	}
	for _, n := range []string{"kept", "sums", "once", "made", "eight"} {
		if !slices.Contains(reached(t, "Laid"), n) {
			t.Errorf("Laid does not come to %s", n)
		}
	}
}
