package sum

import (
	"sync"
	"testing"
)

// atOnce calls as often as many say, all at the same time, and tells what each answered.
func atOnce(many int, call func(i int) uint32) []uint32 {
	out := make([]uint32, many)
	start := make(chan struct{})
	var all sync.WaitGroup
	for i := range many {
		all.Go(func() {
			<-start
			out[i] = call(i)
		})
	}
	close(start)
	all.Wait()
	return out
}

// words is bytes of which each list is another one.
func words(i int) []byte { return []byte{byte(i), 'a', byte(i * 7), 0xff, byte(255 - i)} }

// steps are the chapter's eight steps of a byte, to be held against what is laid up.
func steps(b int) uint32 {
	n := uint32(b)
	for range 8 {
		out := n%2 == 1
		n /= 2
		if out {
			n ^= 0xedb88320
		}
	}
	return n
}

// Each of those who come first at the same time finds all laid up.
func TestFirstCallsAtTheSameTime(t *testing.T) {
	for range 500 {
		s := &sums{}
		laid := func(i int) uint32 {
			s.count()
			return s.of[255-7*i]
		}
		for i, n := range atOnce(32, laid) {
			if want := steps(255 - 7*i); n != want {
				t.Fatalf("of %02x %08x is laid up, want %08x", 255-7*i, n, want)
			}
		}
		if s.made.Load() != 32 {
			t.Fatalf("of 32 sums %d were counted", s.made.Load())
		}
	}
}

func TestSumsAreCounted(t *testing.T) {
	was := kept.made.Load()
	Sum()
	Sum(nil)
	Sum([]byte("1234"), []byte("56789"))
	if now := kept.made.Load(); now != was+3 {
		t.Errorf("of 3 sums %d were counted", now-was)
	}
	atOnce(64, func(i int) uint32 {
		for range 99 {
			Sum(words(i))
		}
		return Sum()
	})
	if now := kept.made.Load(); now != was+3+6400 {
		t.Errorf("of 6400 sums %d were counted", now-was-3)
	}
}

// What was laid up is laid up no more: what it is made to be, it stays.
func TestLaidUpOnce(t *testing.T) {
	s := &sums{}
	if s.of[1] != 0 {
		t.Error("it is there ahead of the first sum")
	}
	s.count()
	for b, n := range s.of {
		if n != steps(b) {
			t.Errorf("of %02x %08x is laid up, want %08x", b, n, steps(b))
		}
	}
	s.of = [256]uint32{}
	s.count()
	if s.of != [256]uint32{} {
		t.Error("it was laid up twice")
	}
}

// Each sum sees to it that the variable has what the eight steps make of each byte.
func TestKept(t *testing.T) {
	Sum()
	for b, n := range kept.of {
		if n != steps(b) {
			t.Errorf("of %02x %08x is laid up, want %08x", b, n, steps(b))
		}
	}
}

// Whatever the variable is made to have, each sum is the same, and is counted.
func TestSumsWithoutTheVariable(t *testing.T) {
	was := kept.of
	defer func() { kept.of = was }()
	for i := range 3000 {
		lists := [][]byte{words(i), nil, words(i / 7), words(i * i)[:i%6]}
		kept.of = was
		want := Sum(lists...)
		for b := range kept.of {
			kept.of[b] *= uint32(i % 4)
		}
		made := kept.made.Load()
		if n := Sum(lists...); n != want {
			t.Fatalf("Sum of %x is %08x with others in the variable, want %08x", lists, n, want)
		}
		if kept.made.Load() != made+1 {
			t.Fatal("a sum was not counted")
		}
	}
	if n := Sum([]byte("123456789")); n != 0xcbf43926 {
		t.Errorf("Sum of 123456789 is %08x with others in the variable", n)
	}
}
