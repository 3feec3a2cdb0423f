package text_test

import (
	"math"
	"testing"

	"conciliator/api"
	"conciliator/text"
)

// asked is a text, a component, and what Check tells of them.
type asked struct {
	s    string
	c    api.Comp
	want api.Errno
}

// mixed has characters of one to four bytes, and bytes that are no part of one: eight in all.
const mixed = "\xffa\u00e9\u20ac\U0001f600\xe2\x82b"

func insAsked() []asked {
	return []asked{
		{"", tins(0, "x"), api.OK},
		{"", tins(1, "x"), api.ErrPlace},
		{"", tins(-1, "x"), api.ErrPlace},
		{"ab", tins(0, "x"), api.OK},
		{"ab", tins(1, "x"), api.OK},
		{"ab", tins(2, "x"), api.OK},
		{"ab", tins(3, "x"), api.ErrPlace},
		{"ab", tins(-1, "x"), api.ErrPlace},
		{"\u00e9", tins(1, "x"), api.OK},
		{"\u00e9", tins(2, "x"), api.ErrPlace}, // there are two bytes
		{"\xc3", tins(1, "x"), api.OK},
		{"\xe2\x82", tins(2, "x"), api.OK},
		{"\xe2\x82", tins(3, "x"), api.ErrPlace},
		{mixed, tins(8, "x"), api.OK},
		{mixed, tins(9, "x"), api.ErrPlace},
		{"ab", tins(math.MaxInt32, "x"), api.ErrPlace},
		{"ab", tins(1<<31, "x"), api.ErrPlace},
		{"ab", tins(1<<32, "x"), api.ErrPlace},
		{"ab", tins(1<<32+1, "x"), api.ErrPlace},
		{"ab", tins(math.MaxInt, "x"), api.ErrPlace},
		{"ab", tins(math.MinInt, "x"), api.ErrPlace},
		{"ab", tins(1, ""), api.OK}, // S is not looked at
		{"ab", tins(2, "\xff\xc3"), api.OK},
		{"ab", tins(3, ""), api.ErrPlace},
		{"ab", many(-1, tins(1, "x")), api.OK}, // neither is N
		{"ab", many(math.MinInt64, tins(2, "x")), api.OK},
		{"ab", many(math.MaxInt64, tins(2, "x")), api.OK},
		{"ab", laden(tins(2, "x")), api.OK},
		{"ab", laden(tins(3, "x")), api.ErrPlace},
	}
}

func delAsked() []asked {
	return []asked{
		{"", tdel(0, 1), api.ErrPlace},
		{"", tdel(0, 0), api.ErrPlace},
		{"", tdel(0, -1), api.ErrPlace},
		{"", tdel(1, 1), api.ErrPlace},
		{"abc", tdel(0, 1), api.OK},
		{"abc", tdel(0, 3), api.OK},
		{"abc", tdel(0, 4), api.ErrPlace},
		{"abc", tdel(1, 1), api.OK},
		{"abc", tdel(1, 2), api.OK},
		{"abc", tdel(1, 3), api.ErrPlace},
		{"abc", tdel(2, 1), api.OK},
		{"abc", tdel(2, 2), api.ErrPlace},
		{"abc", tdel(3, 1), api.ErrPlace},
		{"abc", tdel(3, 0), api.ErrPlace},
		{"abc", tdel(4, 1), api.ErrPlace},
		{"abc", tdel(4, -1), api.ErrPlace},
		{"abc", tdel(-1, 1), api.ErrPlace},
		{"abc", tdel(-1, 2), api.ErrPlace},
		{"abc", tdel(1, 0), api.ErrPlace},
		{"abc", tdel(1, -1), api.ErrPlace},
		{"\u00e9", tdel(0, 1), api.OK},
		{"\u00e9", tdel(0, 2), api.ErrPlace},
		{"\u00e9", tdel(1, 1), api.ErrPlace},
		{"\xe2\x82", tdel(0, 2), api.OK},
		{"\xe2\x82", tdel(1, 1), api.OK},
		{mixed, tdel(0, 8), api.OK},
		{mixed, tdel(0, 9), api.ErrPlace},
		{mixed, tdel(7, 1), api.OK},
		{"abc", tdel(0, math.MaxInt32), api.ErrPlace},
		{"abc", tdel(1, 1<<32), api.ErrPlace},
		{"abc", tdel(1, 1<<32+1), api.ErrPlace},
		{"abc", tdel(1, math.MaxInt64), api.ErrPlace},
		{"abc", tdel(3, math.MaxInt64), api.ErrPlace},
		{"abc", tdel(1, math.MinInt64), api.ErrPlace},
		{"abc", tdel(1, math.MinInt64+2), api.ErrPlace},
		{"abc", tdel(math.MaxInt32, 1), api.ErrPlace},
		{"abc", tdel(1<<32, 1), api.ErrPlace},
		{"abc", tdel(math.MaxInt, 1), api.ErrPlace},
		{"abc", tdel(math.MaxInt, math.MaxInt64), api.ErrPlace},
		{"abc", tdel(math.MaxInt, math.MinInt64), api.ErrPlace},
		{"abc", tdel(math.MinInt, 1), api.ErrPlace},
		{"abc", tdel(math.MinInt, math.MinInt64), api.ErrPlace},
		{"abc", tdel(math.MinInt, math.MaxInt64), api.ErrPlace},
		{"abc", says("\xff", tdel(1, 2)), api.OK}, // S is not looked at
		{"abc", laden(tdel(1, 2)), api.OK},
		{"abc", laden(tdel(1, 3)), api.ErrPlace},
	}
}

func TestCheck(t *testing.T) {
	for _, r := range append(insAsked(), delAsked()...) {
		if e := text.Check(r.s, r.c); e != r.want {
			t.Errorf("Check(%q, %+v) is %d, not %d", r.s, r.c, e, r.want)
		}
		s, e := text.Do(r.s, r.c)
		if e != r.want {
			t.Errorf("Do(%q, %+v) tells %d, not %d", r.s, r.c, e, r.want)
		}
		if e != api.OK && s != "" {
			t.Errorf("Do(%q, %+v) is %q beside an error", r.s, r.c, s)
		}
	}
}

// The kind is told of first, whatever else is wrong.
func TestCheckKind(t *testing.T) {
	for _, k := range otherKinds() {
		for _, c := range comps(tins(1, "x"), tdel(1, 1), tins(-1, ""), tdel(9, 0), tdel(0, -1), laden(tins(math.MaxInt, "\xff"))) {
			for _, s := range []string{"", "ab", "\xff"} {
				if e := text.Check(s, kind(k, c)); e != api.ErrKind {
					t.Errorf("Check of kind %d is %d", k, e)
				}
				if out, e := text.Do(s, kind(k, c)); e != api.ErrKind || out != "" {
					t.Errorf("Do of kind %d is %q, %d", k, out, e)
				}
			}
		}
	}
	if api.ErrKind != 31 || api.ErrPlace != 32 {
		t.Error("the errors' numbers")
	}
}
