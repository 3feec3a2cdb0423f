package disk_test

import (
	"math"
	"testing"

	"conciliator/api"
)

// counted are calls that count, where a file a is there: such as are done, and such as are errors anyhow.
func counted() map[string]func(b both) {
	return map[string]func(b both){
		"Append":           func(b both) { b.append("a", []byte("x"), api.OK) },
		"Append, anew":     func(b both) { b.append("new", nil, api.OK) },
		"Append, too much": func(b both) { b.append("a", make([]byte, 9999), api.ErrFull) },
		"Append, no name":  func(b both) { b.append("", nil, api.ErrFull) },
		"Sync":             func(b both) { b.sync("a", api.OK) },
		"Sync, no file":    func(b both) { b.sync("z", api.ErrFile) },
		"Cut":              func(b both) { b.cut("a", 0, api.OK) },
		"Cut, no file":     func(b both) { b.cut("z", 0, api.ErrFile) },
		"Cut, too much":    func(b both) { b.cut("a", 5000, api.ErrArg) },
		"Cut, below 0":     func(b both) { b.cut("a", -1, api.ErrArg) },
		"Drop":             func(b both) { b.drop("a", api.OK) },
		"Drop, no file":    func(b both) { b.drop("z", api.ErrFile) },
	}
}

// halted says that a disk is halted: each of the four calls is ErrFull, whatever it is asked, and does nothing.
func (b both) halted() {
	b.t.Helper()
	if !b.d.Halted() {
		b.t.Error("it is not halted")
	}
	for _, n := range []string{"a", "z", "", name(mostName + 1)} {
		b.append(n, nil, api.ErrFull)
		b.append(n, []byte("y"), api.ErrFull)
		b.append(n, make([]byte, 9999), api.ErrFull)
		b.sync(n, api.ErrFull)
		for _, i := range odd() {
			b.cut(n, i, api.ErrFull)
		}
		b.drop(n, api.ErrFull)
	}
}

// begun is a disk with a file a, of which two bytes last, and two don't.
func begun(t *testing.T) both {
	t.Helper()
	b := fresh(t, 1000)
	b.lay("a", "ab", true)
	b.lay("a", "cd", false)
	return b
}

func TestHaltBelowNought(t *testing.T) {
	for _, calls := range []int{-1, -2, -100, math.MinInt32, math.MinInt + 1, math.MinInt} {
		b := begun(t)
		b.halt(calls)
		for range 300 {
			b.append("a", []byte("x"), api.OK)
			b.sync("z", api.ErrFile)
			b.cut("a", 4, api.OK)
			b.cut("a", 5, api.ErrArg)
			b.drop("z", api.ErrFile)
		}
		if b.d.Halted() {
			t.Errorf("behind Halt(%d) it is halted", calls)
		}
	}
}

func TestHaltOfNought(t *testing.T) {
	b := begun(t)
	b.halt(0)
	b.halted()
	b.has("a", "abcd")
}

// Each of the calls counts, whether it is an error anyhow or not: just so many are done.
func TestHaltOfSome(t *testing.T) {
	for what, call := range counted() {
		for _, calls := range []int{1, 2, 3, 10} {
			b := begun(t)
			b.halt(calls)
			for i := range calls {
				if b.d.Halted() {
					t.Fatalf("%s: halted behind %d of %d", what, i, calls)
				}
				if what == "Drop" && i < calls-1 { // it can be done once
					b.sync("z", api.ErrFile)
					continue
				}
				call(b)
			}
			if !b.d.Halted() {
				t.Errorf("%s: not halted behind %d", what, calls)
			}
			b.halted()
		}
	}
}

func TestHaltOfEachMixed(t *testing.T) {
	b := begun(t)
	b.halt(7)
	b.append("a", []byte("e"), api.OK)
	b.append("", nil, api.ErrFull)
	b.sync("z", api.ErrFile)
	b.cut("a", 9, api.ErrArg)
	b.full(true)
	b.append("a", nil, api.ErrFull)
	b.sync("a", api.OK)
	b.drop("z", api.ErrFile)
	b.halted()
	b.crash(0)
	b.has("a", "abcde")
}

// All others count nothing, however often they are asked, errors or not.
func TestHaltCountsNoOthers(t *testing.T) {
	b := begun(t)
	b.halt(1)
	for range 50 {
		b.has("a", "abcd")
		b.none("z")
		b.d.Names()
		b.d.Used()
		b.d.Halted()
		b.full(true)
		b.full(false)
	}
	if b.d.Halted() {
		t.Error("it is halted")
	}
	b.sync("a", api.OK)
	b.halted()
}

// A Halt takes the place of the one ahead of it: the calls that were counted ahead of it say nothing.
func TestHaltAnewWhileItCounts(t *testing.T) {
	b := begun(t)
	b.halt(2)
	b.sync("a", api.OK)
	b.halt(2)
	b.sync("a", api.OK)
	b.sync("a", api.OK)
	b.halted()

	b = begun(t)
	b.halt(5)
	b.sync("a", api.OK)
	b.halt(1)
	b.sync("a", api.OK)
	b.halted()

	b = begun(t)
	b.halt(5)
	b.sync("a", api.OK)
	b.halt(0)
	b.halted()

	b = begun(t)
	b.halt(2)
	b.sync("a", api.OK)
	b.halt(-1)
	for range 20 {
		b.sync("a", api.OK)
	}
}

func TestHaltAnewWhileHalted(t *testing.T) {
	b := begun(t)
	b.halt(0)
	b.halted()
	b.halt(2)
	b.append("a", []byte("e"), api.OK)
	b.cut("a", 1, api.OK)
	b.halted()
	b.halt(0)
	b.halted()
	b.halt(-5)
	for range 20 {
		b.append("a", []byte("e"), api.OK)
	}
	b.halt(1)
	b.drop("a", api.OK)
	b.halted()
	b.none("a")
}

// While the disk is halted nothing counts: the next Halt finds nothing of it.
func TestHaltedCountsNothing(t *testing.T) {
	b := begun(t)
	for _, calls := range []int{1, 2, 3} {
		b.halt(0)
		b.halted()
		b.halt(calls)
		for range calls {
			b.sync("a", api.OK)
		}
		b.halted()
	}
}

// What was asked of a halted disk was not done: nothing more lasts, and nothing less.
func TestHaltedDoesNothing(t *testing.T) {
	b := begun(t)
	b.halt(0)
	b.halted()
	b.crash(0)
	b.has("a", "ab")

	b = begun(t)
	b.halt(0)
	b.halted()
	b.crash(1)
	b.has("a", "abc")
	b.none("z")
}

// A halted disk is read, and tells what it has.
func TestHaltedIsRead(t *testing.T) {
	b := begun(t)
	b.lay("b", "ef", false)
	b.halt(0)
	b.has("a", "abcd")
	b.has("b", "ef")
	b.none("z")
	if n := b.d.Names(); len(n) != 2 || b.d.Used() != 6 {
		t.Errorf("%q, %d", n, b.d.Used())
	}
}

// Full and halted are two things: neither ends the other.
func TestHaltedAndFull(t *testing.T) {
	b := begun(t)
	b.full(true)
	b.halt(0)
	b.full(false)
	b.halted()
	b.full(true)
	b.halt(-1)
	b.append("a", nil, api.ErrFull)
	b.sync("a", api.OK)
	b.full(false)
	b.append("a", nil, api.OK)
}

func TestHaltOfVeryMany(t *testing.T) {
	for _, calls := range []int{1 << 20, math.MaxInt32, math.MaxInt/2 + 1, math.MaxInt/2 + 2, math.MaxInt} {
		b := begun(t)
		b.halt(calls)
		for range 100 {
			b.append("a", []byte("e"), api.OK)
		}
		b.halt(0)
		b.halted()
	}
	b := begun(t)
	b.d.Halt(100000)
	for range 100000 {
		if b.d.Halted() || b.d.Sync("a") != api.OK {
			t.Fatal("it is halted too early")
		}
	}
	b.p.halt(0)
	b.halted()
}
