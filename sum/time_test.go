package sum_test

import (
	"math/rand"
	"slices"
	"sync"
	"testing"

	"conciliator/sum"
)

// together sums each of these lists, all at the same time.
func together(all [][]byte) []uint32 {
	out := make([]uint32, len(all))
	start := make(chan struct{})
	var done sync.WaitGroup
	for i, b := range all {
		done.Go(func() {
			<-start
			out[i] = sum.Sum(b[:len(b)/2], b[len(b)/2:])
		})
	}
	close(start)
	done.Wait()
	return out
}

// several are lists by chance, of many lengths.
func several() [][]byte {
	r := rand.New(rand.NewSource(31))
	var out [][]byte
	for i := range 200 {
		out = append(out, chance(r, i*i%97))
	}
	return out
}

// first stands here so that no test has summed anything ahead of it.
var first = together(several())

func TestFirstOfAll(t *testing.T) {
	for i, b := range several() {
		if first[i] != plainSum(b) {
			t.Errorf("Sum of %x, one of the first: %08x, want %08x", b, first[i], plainSum(b))
		}
	}
}

func TestAtTheSameTime(t *testing.T) {
	for range 20 {
		for i, n := range together(several()) {
			if n != plainSum(several()[i]) {
				t.Fatalf("Sum at the same time as others: %08x, want %08x", n, plainSum(several()[i]))
			}
		}
	}
}

// Many may sum the same bytes.
func TestSameBytesAtTheSameTime(t *testing.T) {
	b := chance(rand.New(rand.NewSource(32)), 3000)
	for _, n := range together(slices.Repeat([][]byte{b}, 200)) {
		if n != plainSum(b) {
			t.Fatalf("Sum: %08x, want %08x", n, plainSum(b))
		}
	}
}
