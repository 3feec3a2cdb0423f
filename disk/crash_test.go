package disk_test

import (
	"math"
	"testing"

	"conciliator/api"
)

// Of a file of which two bytes last, and three don't.
func TestCrash(t *testing.T) {
	for keep, want := range map[int]string{
		math.MinInt: "ab", math.MinInt32: "ab", -3: "ab", -2: "ab", -1: "ab", 0: "ab", 1: "abc", 2: "abcd", 3: "abcde",
		4: "abcde", 5: "abcde", mostRoom: "abcde", mostRoom + 1: "abcde", math.MaxInt32: "abcde", math.MaxInt - 1: "abcde", math.MaxInt: "abcde",
	} {
		b := fresh(t, 100)
		b.lay("a", "ab", true)
		b.lay("a", "cde", false)
		b.crash(keep)
		b.has("a", want)
		// All of that lasts then.
		b.crash(0)
		b.has("a", want)
	}
}

func TestCrashOfSeveralFiles(t *testing.T) {
	for keep := -1; keep < 7; keep++ {
		b := fresh(t, 100)
		b.lay("all", "abcde", true)
		b.lay("none", "fghij", false)
		b.lay("some", "kl", true)
		b.lay("some", "mno", false)
		b.append("empty", nil, api.OK)
		b.lay("cut", "pqrst", true)
		b.cut("cut", 1, api.OK)
		b.lay("cut", "uvw", false)
		b.crash(keep)
		more := max(keep, 0)
		b.has("all", "abcde")
		b.has("none", "fghij"[:min(more, 5)])
		b.has("some", "klmno"[:min(2+more, 5)])
		b.has("empty", "")
		b.has("cut", "puvw"[:min(1+more, 4)])
		if len(b.d.Names()) != 5 {
			t.Errorf("there are %q", b.d.Names())
		}
	}
}

// What a crash kept lasts; what comes behind it does not, till it is synced.
func TestCrashTwice(t *testing.T) {
	b := fresh(t, 100)
	b.lay("a", "ab", true)
	b.lay("a", "cdef", false)
	b.crash(2)
	b.has("a", "abcd")
	b.crash(2)
	b.has("a", "abcd")
	b.lay("a", "xyz", false)
	b.crash(1)
	b.has("a", "abcdx")
	b.lay("a", "yz", false)
	b.crash(-1)
	b.has("a", "abcdx")
	b.lay("a", "yz", true)
	b.crash(0)
	b.has("a", "abcdxyz")
}

// What a crash lost is not there behind another one that would keep it.
func TestCrashLoses(t *testing.T) {
	b := fresh(t, 100)
	b.lay("a", "abcdef", false)
	b.crash(1)
	b.crash(5)
	b.has("a", "a")
	b.append("a", []byte("Z"), api.OK)
	b.crash(5)
	b.has("a", "aZ")
}

// A file of which nothing lasts is there, and has nothing.
func TestCrashOfAFileOfWhichNothingLasts(t *testing.T) {
	b := fresh(t, 100)
	b.lay("a", "abc", false)
	b.append("b", nil, api.OK)
	b.crash(0)
	b.has("a", "")
	b.has("b", "")
	b.append("a", []byte("d"), api.OK)
	b.has("a", "d")
	b.crash(0)
	b.has("a", "")
	b.sync("a", api.OK)
	b.cut("a", 0, api.OK)
	b.drop("a", api.OK)
	b.none("a")
}

func TestCrashOfNoFiles(t *testing.T) {
	b := fresh(t, 100)
	for _, keep := range odd() {
		b.crash(keep)
	}
	b.append("a", nil, api.OK)
}

func TestCrashEndsFull(t *testing.T) {
	for _, keep := range odd() {
		b := fresh(t, 3)
		b.lay("a", "a", false)
		b.full(true)
		b.append("a", nil, api.ErrFull)
		b.crash(keep)
		b.append("a", []byte("b"), api.OK)
		b.append("b", []byte("b"), api.OK)
	}
}

func TestCrashEndsHalt(t *testing.T) {
	for _, keep := range odd() {
		for _, calls := range []int{0, 1, 2} {
			b := fresh(t, 100)
			b.lay("a", "a", false)
			b.halt(calls)
			b.crash(keep)
			if b.d.Halted() {
				t.Fatal("it is halted")
			}
			// No Halt is open: it counts nothing any more.
			for range 10 {
				b.append("a", []byte("b"), api.OK)
				b.sync("z", api.ErrFile)
			}
			b.crash(keep)
			b.halt(1)
			b.sync("a", api.OK)
			b.halted()
		}
	}
}

// A crash is none of the calls that are halted, or that count.
func TestCrashOfAHaltedDisk(t *testing.T) {
	b := fresh(t, 100)
	b.lay("a", "ab", true)
	b.lay("a", "cd", false)
	b.halt(0)
	b.full(true)
	b.crash(1)
	b.has("a", "abc")
	b.append("a", []byte("x"), api.OK)
	b.has("a", "abcx")
}

// The room is as it was.
func TestCrashLeavesTheRoom(t *testing.T) {
	b := fresh(t, 10)
	b.lay("a", "abcd", true)
	b.lay("b", "efg", false)
	b.crash(1)
	b.append("a", []byte("123456"), api.ErrFull)
	b.append("a", []byte("12345"), api.OK)
	b.append("b", []byte("1"), api.ErrFull)
}
