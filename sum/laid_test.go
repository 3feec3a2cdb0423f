package sum_test

import (
	"math/rand"
	"slices"
	"sync"
	"testing"

	"conciliator/sum"
)

// agree says that what Laid tells of lists is what Sum tells, and leaves them as they were.
func agree(t *testing.T, lists ...[]byte) {
	t.Helper()
	var was [][]byte
	for _, list := range lists {
		was = append(was, slices.Clone(list[:cap(list)]))
	}
	if got, want := sum.Laid(lists...), sum.Sum(lists...); got != want || want != plainSum(lists...) {
		t.Errorf("Laid of %x is %08x, Sum %08x, want %08x", lists, got, want, plainSum(lists...))
	}
	for i, list := range lists {
		if !slices.Equal(list[:cap(list)], was[i]) {
			t.Errorf("list %d is changed", i)
		}
	}
}

func TestLaidOfTheExamples(t *testing.T) {
	if n := sum.Laid([]byte("123456789")); n != digits {
		t.Errorf("Laid of 123456789 is %08x", n)
	}
	if n := sum.Laid(); n != 0 {
		t.Errorf("Laid of nothing is %08x", n)
	}
	agree(t)
	agree(t, nil)
	agree(t, nil, []byte{}, nil)
	agree(t, []byte("1234"), nil, []byte("56789"))
	agree(t, []byte("123456789abc")[:9])
}

func TestLaidOfShortLists(t *testing.T) {
	for i := range 1 << 16 {
		agree(t, []byte{byte(i >> 8), byte(i)})
	}
	for i := range 256 {
		agree(t, []byte{byte(i)})
		agree(t, []byte{0xff, 0xff, 0xff, 0xff, byte(i)})
	}
}

func TestLaidByChance(t *testing.T) {
	r := rand.New(rand.NewSource(41))
	for range 5000 {
		agree(t, cut(r, chance(r, r.Intn(200)))...)
	}
	for _, many := range []int{4096, 60008, 65536, 1 << 20} {
		agree(t, chance(r, many))
	}
}

// laidTogether asks Laid of each of these lists, all at the same time.
func laidTogether(all [][]byte) []uint32 {
	out := make([]uint32, len(all))
	start := make(chan struct{})
	var done sync.WaitGroup
	for i, b := range all {
		done.Go(func() {
			<-start
			out[i] = sum.Laid(b[:len(b)/2], b[len(b)/2:])
		})
	}
	close(start)
	done.Wait()
	return out
}

// firstLaid stands here so that no test has asked Laid ahead of it.
var firstLaid = laidTogether(several())

func TestLaidFirstOfAll(t *testing.T) {
	for i, b := range several() {
		if firstLaid[i] != sum.Sum(b) {
			t.Errorf("Laid of %x, one of the first: %08x, want %08x", b, firstLaid[i], sum.Sum(b))
		}
	}
}

func TestLaidAtTheSameTime(t *testing.T) {
	for range 20 {
		for i, n := range laidTogether(several()) {
			if n != sum.Sum(several()[i]) {
				t.Fatalf("Laid at the same time as others: %08x, want %08x", n, sum.Sum(several()[i]))
			}
		}
	}
}

func FuzzLaid(f *testing.F) {
	f.Add([]byte("1234"), []byte("56789"))
	f.Add([]byte(nil), []byte{0xff, 0xff, 0xff, 0xff})
	f.Fuzz(func(t *testing.T, a, b []byte) { agree(t, a, b) })
}
