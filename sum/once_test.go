package sum

import (
	"sync"
	"testing"
)

// atOnce calls as often as many say, all at the same time, and tells what each answered.
func atOnce(many int, call func(i int) uint32) []uint32 {
	out := make([]uint32, many)
	start := make(chan struct{})
	var all sync.WaitGroup
	for i := range many {
		all.Go(func() {
			<-start
			out[i] = call(i)
		})
	}
	close(start)
	all.Wait()
	return out
}

// words is bytes of which each list is another one, and what they have alone.
func words(i int) []byte { return []byte{byte(i), 'a', byte(i * 7), 0xff, byte(255 - i)} }

func alone(i int) uint32 {
	n := ^uint32(0)
	for _, b := range words(i) {
		n = eight(n ^ uint32(b))
	}
	return ^n
}

func TestFirstCallsAtTheSameTime(t *testing.T) {
	for range 500 {
		s := &sums{}
		for i, n := range atOnce(32, func(i int) uint32 { return s.sum([][]byte{words(i)}) }) {
			if n != alone(i) {
				t.Fatalf("sum of %x: %08x, want %08x", words(i), n, alone(i))
			}
		}
		if s.made.Load() != 32 {
			t.Fatalf("of 32 sums %d were counted", s.made.Load())
		}
	}
}

func TestSumsAreCounted(t *testing.T) {
	was := kept.made.Load()
	Sum()
	Sum(nil)
	Sum([]byte("1234"), []byte("56789"))
	if now := kept.made.Load(); now != was+3 {
		t.Errorf("of 3 sums %d were counted", now-was)
	}
	atOnce(64, func(i int) uint32 {
		for range 99 {
			Sum(words(i))
		}
		return Sum()
	})
	if now := kept.made.Load(); now != was+3+6400 {
		t.Errorf("of 6400 sums %d were counted", now-was-3)
	}
}

// What was laid up is laid up no more: what it is made to be, it stays.
func TestLaidUpOnce(t *testing.T) {
	s := &sums{}
	if s.of[1] != 0 {
		t.Error("it is there ahead of the first sum")
	}
	s.sum(nil)
	for b, n := range s.of {
		if n != eight(uint32(b)) {
			t.Errorf("of %02x %08x is laid up, want %08x", b, n, eight(uint32(b)))
		}
	}
	s.of = [256]uint32{}
	if n := s.sum([][]byte{{0}}); n != 0xff000000 {
		t.Errorf("Sum of 00 is %08x by noughts that were laid up, want ff000000", n)
	}
	if s.of != [256]uint32{} {
		t.Error("it was laid up twice")
	}
}
