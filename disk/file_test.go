package disk_test

import (
	"testing"

	"conciliator/api"
)

func TestNoSuchFile(t *testing.T) {
	empty, other := fresh(t, 100), fresh(t, 100)
	other.lay("a", "ab", false)
	for _, b := range []both{empty, other} {
		for _, n := range wrong() {
			b.none(n)
			b.sync(n, api.ErrFile)
			b.drop(n, api.ErrFile)
			for _, i := range odd() {
				b.cut(n, i, api.ErrFile)
			}
		}
	}
	other.crash(0)
	other.has("a", "")
}

func TestReadTellsWhatDoesNotLast(t *testing.T) {
	b := fresh(t, 100)
	b.lay("a", "ab", true)
	b.lay("a", "cd", false)
	b.has("a", "abcd")
	b.cut("a", 3, api.OK)
	b.has("a", "abc")
	b.drop("a", api.OK)
	b.none("a")
}

func TestSync(t *testing.T) {
	b := fresh(t, 100)
	b.lay("a", "ab", false)
	b.lay("b", "cd", false)
	b.sync("a", api.OK)
	b.sync("a", api.OK)
	b.crash(0)
	b.has("a", "ab")
	b.has("b", "")
	b.lay("a", "c", false)
	b.lay("b", "d", true)
	b.crash(0)
	b.has("a", "ab")
	b.has("b", "d")
	b.append("c", nil, api.OK)
	b.sync("c", api.OK)
	b.lay("c", "e", false)
	b.crash(0)
	b.has("c", "")
}

func TestCut(t *testing.T) {
	b := fresh(t, 100)
	b.lay("a", "abcdef", false)
	b.lay("b", "xyz", false)
	for _, n := range []int{-1, -2, 7, 8} {
		b.cut("a", n, api.ErrArg)
	}
	b.cut("a", 6, api.OK)
	b.has("a", "abcdef")
	b.cut("a", 4, api.OK)
	b.has("a", "abcd")
	b.cut("a", 5, api.ErrArg)
	b.cut("a", 1, api.OK)
	b.has("a", "a")
	b.cut("a", 0, api.OK)
	b.has("a", "")
	b.cut("a", 0, api.OK)
	b.cut("a", 1, api.ErrArg)
	b.cut("a", -1, api.ErrArg)
	b.has("b", "xyz")
	b.append("a", []byte("new"), api.OK)
	b.has("a", "new")
}

func TestCutOfOddNumbers(t *testing.T) {
	b := fresh(t, 100)
	b.lay("a", "abc", true)
	for _, n := range odd() {
		if n < 0 || n > 3 {
			b.cut("a", n, api.ErrArg)
		}
	}
	b.has("a", "abc")
	b.crash(0)
	b.has("a", "abc")
}

// Of those that last at most so many last behind it: what is laid down there does not.
func TestCutOfWhatLasts(t *testing.T) {
	for n := range 9 {
		for keep := range 6 {
			b := fresh(t, 100)
			b.lay("a", "abcde", true)
			b.lay("a", "fgh", false)
			b.cut("a", n, api.OK)
			b.append("a", []byte("XYZ"), api.OK)
			all := "abcdefgh"[:n] + "XYZ"
			b.has("a", all)
			b.crash(keep)
			b.has("a", all[:min(min(n, 5)+keep, len(all))])
		}
	}
}

// What is cut off is not there behind a crash, though it did last.
func TestCutLasts(t *testing.T) {
	b := fresh(t, 100)
	b.lay("a", "abcde", true)
	b.cut("a", 2, api.OK)
	b.crash(9)
	b.has("a", "ab")
	b.cut("a", 0, api.OK)
	b.crash(9)
	b.has("a", "")
}

func TestDrop(t *testing.T) {
	b := fresh(t, 100)
	b.lay("a", "abc", true)
	b.lay("b", "de", true)
	b.drop("a", api.OK)
	b.none("a")
	b.drop("a", api.ErrFile)
	b.has("b", "de")
	b.crash(9)
	b.none("a")
	b.drop("b", api.OK)
	if len(b.d.Names()) != 0 || b.d.Used() != 0 {
		t.Errorf("%q, %d", b.d.Names(), b.d.Used())
	}
}

// A file that is laid down anew has nothing of the one that was dropped, nor lasts anything of it.
func TestDropAndLayAnew(t *testing.T) {
	b := fresh(t, 100)
	b.lay("a", "abc", true)
	b.drop("a", api.OK)
	b.append("a", []byte("defg"), api.OK)
	b.has("a", "defg")
	b.crash(1)
	b.has("a", "d")
}

func TestFullIsNoErrorOfOthers(t *testing.T) {
	b := fresh(t, 5)
	b.lay("a", "abcde", false)
	b.full(true)
	b.has("a", "abcde")
	b.sync("a", api.OK)
	b.cut("a", 3, api.OK)
	b.cut("a", 4, api.ErrArg)
	b.sync("b", api.ErrFile)
	b.cut("b", 0, api.ErrFile)
	b.drop("b", api.ErrFile)
	b.append("a", nil, api.ErrFull)
	b.crash(0)
	b.has("a", "abc")
	b.full(true)
	b.drop("a", api.OK)
	b.none("a")
	b.append("a", nil, api.ErrFull)
}

func TestNamesRise(t *testing.T) {
	b := fresh(t, 100)
	for _, n := range []string{"b", "a", "\xff", "aa", "a0", "B", "\u00e9", "a\x00", "10", "9", "a.snap", "a.log", "ab"} {
		b.append(n, nil, api.OK)
	}
	b.drop("9", api.OK)
	b.drop("aa", api.OK)
	b.append("aa", nil, api.OK)
	want := []string{"10", "B", "a", "a\x00", "a.log", "a.snap", "a0", "aa", "ab", "b", "\u00e9", "\xff"}
	for range 20 {
		got := b.d.Names()
		if len(got) != len(want) {
			t.Fatalf("%q", got)
		}
		for i, n := range got {
			if n != want[i] {
				t.Errorf("name %d is %q, want %q", i, n, want[i])
			}
		}
	}
}

// However files were laid down, their names rise.
func TestNamesOfMany(t *testing.T) {
	b := fresh(t, 100)
	for i := range mostFiles {
		b.append(numbered(i*37%mostFiles), nil, api.OK)
	}
	for i, n := range b.d.Names() {
		if n != numbered(i) {
			t.Errorf("name %d is %q", i, n)
		}
	}
}

func TestUsed(t *testing.T) {
	b := fresh(t, 100)
	used := func(want int) {
		t.Helper()
		if b.d.Used() != want {
			t.Errorf("Used is %d, want %d", b.d.Used(), want)
		}
	}
	b.lay("a", "abcde", true)
	used(5)
	b.lay("b", "fgh", false)
	used(8)
	b.append("c", nil, api.OK)
	used(8)
	b.cut("a", 2, api.OK)
	used(5)
	b.append("b", make([]byte, 96), api.ErrFull)
	used(5)
	b.crash(1)
	used(3)
	b.drop("a", api.OK)
	used(1)
}
