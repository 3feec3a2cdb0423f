package seq_test

import (
	"math"
	"testing"

	"conciliator/api"
	"conciliator/seq"
)

// The greatest number of which the chapter speaks.
const most = math.MaxInt32

// asked is how many a list has, a component, and what Check tells of them.
type asked struct {
	n    int
	c    api.Comp
	want api.Errno
}

func insAsked() []asked {
	return []asked{
		{0, ins(0, "x"), api.OK},
		{0, ins(1, "x"), api.ErrPlace},
		{0, ins(-1, "x"), api.ErrPlace},
		{1, ins(0, "x"), api.OK},
		{1, ins(1, "x"), api.OK},
		{1, ins(2, "x"), api.ErrPlace},
		{3, ins(0, "x"), api.OK},
		{3, ins(2, "x"), api.OK},
		{3, ins(3, "x"), api.OK},
		{3, ins(4, "x"), api.ErrPlace},
		{3, ins(-1, "x"), api.ErrPlace},
		{3, to(-1, ins(3, "x")), api.OK}, // J is not looked at
		{3, to(9, ins(0, "x")), api.OK},
		{3, to(0, ins(4, "x")), api.ErrPlace},
		{most, ins(most, "x"), api.OK},
		{most, ins(most+1, "x"), api.ErrPlace},
		{3, ins(1<<32, "x"), api.ErrPlace},
		{3, ins(1<<32+1, "x"), api.ErrPlace},
		{3, ins(math.MaxInt, "x"), api.ErrPlace},
		{3, ins(math.MinInt, "x"), api.ErrPlace},
		{math.MaxInt, ins(math.MaxInt, "x"), api.OK},
		{-1, ins(0, "x"), api.ErrPlace},
		{-1, ins(-1, "x"), api.ErrPlace},
		{math.MinInt, ins(0, "x"), api.ErrPlace},
		{3, gives(rich(), ins(3, "")), api.OK}, // neither is V
	}
}

// oneAsked is of those which take one out, or stand at one.
func oneAsked(k uint8) []asked {
	c := kind(k, api.Comp{})
	return []asked{
		{0, place(0, c), api.ErrPlace},
		{0, place(1, c), api.ErrPlace},
		{0, place(-1, c), api.ErrPlace},
		{1, place(0, c), api.OK},
		{1, place(1, c), api.ErrPlace},
		{1, place(2, c), api.ErrPlace},
		{1, place(-1, c), api.ErrPlace},
		{3, place(0, c), api.OK},
		{3, place(1, c), api.OK},
		{3, place(2, c), api.OK},
		{3, place(3, c), api.ErrPlace},
		{3, place(4, c), api.ErrPlace},
		{3, place(-1, c), api.ErrPlace},
		{most, place(most-1, c), api.OK},
		{most, place(most, c), api.ErrPlace},
		{most + 1, place(most, c), api.OK},
		{3, place(1<<31, c), api.ErrPlace},
		{3, place(1<<32, c), api.ErrPlace},
		{3, place(1<<32+1, c), api.ErrPlace},
		{3, place(math.MaxInt, c), api.ErrPlace},
		{3, place(math.MinInt, c), api.ErrPlace},
		{math.MaxInt, place(math.MaxInt-1, c), api.OK},
		{math.MaxInt, place(math.MaxInt, c), api.ErrPlace},
		{-1, place(0, c), api.ErrPlace},
		{-1, place(-1, c), api.ErrPlace},
		{-3, place(-2, c), api.ErrPlace},
		{math.MinInt, place(0, c), api.ErrPlace},
		{math.MinInt, place(math.MaxInt, c), api.ErrPlace},
	}
}

func jAsked() []asked {
	return []asked{
		{1, move(0, 0), api.OK},
		{1, move(0, 1), api.ErrPlace},
		{1, move(0, -1), api.ErrPlace},
		{3, move(1, 0), api.OK},
		{3, move(1, 1), api.OK},
		{3, move(1, 2), api.OK},
		{3, move(1, 3), api.ErrPlace},
		{3, move(1, 4), api.ErrPlace},
		{3, move(1, -1), api.ErrPlace},
		{3, move(2, 2), api.OK},
		{3, move(3, 3), api.ErrPlace},
		{3, move(3, 0), api.ErrPlace},
		{3, move(-1, -1), api.ErrPlace},
		{3, move(1, 1<<31), api.ErrPlace},
		{3, move(1, 1<<32), api.ErrPlace},
		{3, move(1, math.MaxInt), api.ErrPlace},
		{3, move(1, math.MinInt), api.ErrPlace},
		{most, move(most-1, most-1), api.OK},
		{most, move(most-1, most), api.ErrPlace},
		{most + 1, move(0, most), api.OK},
		{most + 1, move(most, most), api.OK},
		{3, to(9, rem(2)), api.OK}, // J of others is not looked at
		{3, to(-1, rem(2)), api.OK},
		{3, to(1, rem(3)), api.ErrPlace},
		{3, to(9, set(2, "x")), api.OK},
		{3, to(-1, set(2, "x")), api.OK},
		{3, to(1, set(3, "x")), api.ErrPlace},
		{3, gives(rich(), rem(2)), api.OK},
		{3, gives(rich(), set(2, "")), api.OK},
		{3, gives(rich(), move(2, 1)), api.OK},
	}
}

func allAsked() []asked {
	all := append(insAsked(), jAsked()...)
	for _, k := range []uint8{api.Rem, api.Set, api.Move} {
		all = append(all, oneAsked(k)...)
	}
	return all
}

func TestCheck(t *testing.T) {
	for _, r := range allAsked() {
		for _, c := range comps(r.c, laden(r.c)) {
			if e := seq.Check(r.n, c); e != r.want {
				t.Errorf("Check(%d, %+v) is %d, not %d", r.n, c, e, r.want)
			}
		}
	}
}

// Do asks the same of the list that it is handed.
func TestDoChecks(t *testing.T) {
	for _, r := range allAsked() {
		if r.n < 0 || r.n > 3 {
			continue
		}
		room := row("abcdef") // what lies behind a list's length is none of it
		l, e := seq.Do(room[:r.n], r.c)
		if e != r.want {
			t.Errorf("Do(%d, %+v) tells %d, not %d", r.n, r.c, e, r.want)
		}
		if e != api.OK && len(l) > 0 {
			t.Errorf("Do(%d, %+v) is %+v beside an error", r.n, r.c, l)
		}
	}
}

// The kind is told of first, whatever else is wrong.
func TestCheckKind(t *testing.T) {
	wrong := comps(ins(1, "x"), rem(0), move(1, 0), ins(-1, ""), rem(9), move(-1, -1), move(0, 9), laden(set(math.MaxInt, "\xff")))
	for _, k := range otherKinds() {
		for _, c := range wrong {
			for n := -1; n <= 3; n++ {
				if e := seq.Check(n, kind(k, c)); e != api.ErrKind {
					t.Errorf("Check of kind %d is %d", k, e)
				}
				l, e := seq.Do(row("abc")[:max(0, n)], kind(k, c))
				if e != api.ErrKind || len(l) > 0 {
					t.Errorf("Do of kind %d is %+v, %d", k, l, e)
				}
			}
		}
	}
	if api.ErrKind != 31 || api.ErrPlace != 32 {
		t.Error("the errors' numbers")
	}
}
