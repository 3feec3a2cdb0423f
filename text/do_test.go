package text_test

import (
	"slices"
	"strings"
	"testing"

	"conciliator/api"
	"conciliator/text"
)

func TestDo(t *testing.T) {
	rows := []struct {
		s    string
		c    api.Comp
		want string
	}{
		{"", tins(0, "x"), "x"},
		{"", tins(0, ""), ""},
		{"ab", tins(0, "xy"), "xyab"},
		{"ab", tins(1, "xy"), "axyb"},
		{"ab", tins(2, "xy"), "abxy"},
		{"ab", tins(1, ""), "ab"},
		{"\u00e9\u20ac\U0001f600", tins(0, "\u00fc"), "\u00fc\u00e9\u20ac\U0001f600"},
		{"\u00e9\u20ac\U0001f600", tins(1, "\u00fc"), "\u00e9\u00fc\u20ac\U0001f600"},
		{"\u00e9\u20ac\U0001f600", tins(2, "\u00fc"), "\u00e9\u20ac\u00fc\U0001f600"},
		{"\u00e9\u20ac\U0001f600", tins(3, "\u00fc"), "\u00e9\u20ac\U0001f600\u00fc"},
		{"\xffab", tins(1, "x"), "\xffxab"},
		{"a\xffb", tins(1, "x"), "ax\xffb"},
		{"a\xffb", tins(2, "x"), "a\xffxb"},
		{"ab\xff", tins(3, "x"), "ab\xffx"},
		{"\xe2\x82", tins(1, "x"), "\xe2x\x82"},
		{"ab", tins(1, "\xff"), "a\xffb"},
		{"\xc3", tins(1, "\xa9"), "\u00e9"}, // bytes may become a character
		{"ab", laden(tins(1, "x")), "axb"},

		{"a", tdel(0, 1), ""},
		{"abcd", tdel(1, 2), "ad"},
		{"abcd", tdel(0, 1), "bcd"},
		{"abcd", tdel(3, 1), "abc"},
		{"abcd", tdel(0, 4), ""},
		{"abcd", tdel(2, 2), "ab"},
		{"\u00e9\u20ac\U0001f600", tdel(0, 1), "\u20ac\U0001f600"},
		{"\u00e9\u20ac\U0001f600", tdel(1, 1), "\u00e9\U0001f600"},
		{"\u00e9\u20ac\U0001f600", tdel(1, 2), "\u00e9"},
		{"\u00e9\u20ac\U0001f600", tdel(0, 3), ""},
		{"\xffab", tdel(0, 1), "ab"},
		{"a\xffb", tdel(1, 1), "ab"},
		{"ab\xff", tdel(2, 1), "ab"},
		{"a\xe2\x82", tdel(2, 1), "a\xe2"},
		{"\xe2\x82\u20ac", tdel(1, 2), "\xe2"},
		{"\xc3a\xa9", tdel(1, 1), "\u00e9"},
		{"abcd", says("x", tdel(1, 2)), "ad"},
		{"abcd", laden(tdel(1, 2)), "ad"},
	}
	for _, r := range rows {
		if s, e := text.Do(r.s, r.c); s != r.want || e != api.OK {
			t.Errorf("Do(%q, %+v) is %q, %d", r.s, r.c, s, e)
		}
	}
}

// plainDo is what the chapter says of Check and Do, done to a row of characters.
func plainDo(s string, c api.Comp) (string, api.Errno) {
	l := row(s)
	switch {
	case c.I < 0 || c.I > len(l):
		return "", api.ErrPlace
	case c.Kind == api.Tins:
		l = slices.Insert(l, c.I, c.S)
	case c.N < 1 || c.N > int64(len(l)-c.I):
		return "", api.ErrPlace
	default:
		l = slices.Delete(l, c.I, c.I+int(c.N))
	}
	return strings.Join(l, ""), api.OK
}

// reaching are components at each place of a text of n characters, and one beyond on both sides.
func reaching(n int, texts ...string) []api.Comp {
	var all []api.Comp
	for i := -1; i <= n+1; i++ {
		for _, s := range texts {
			all = append(all, tins(i, s))
		}
		for k := -1; k <= n+1; k++ {
			all = append(all, tdel(i, int64(k)))
		}
	}
	return all
}

func TestDoAnywhere(t *testing.T) {
	for s := range shortTexts("a\x80\xa9\xc3\xe2\x82\xac", 4) {
		for _, c := range reaching(len(s), "", "x", "\u20acy", "\xc3", "\xa9") {
			want, why := plainDo(s, c)
			if got, e := text.Do(s, c); got != want || e != why {
				t.Fatalf("Do(%q, %+v) is %q, %d, not %q, %d", s, c, got, e, want, why)
			}
			if e := text.Check(s, c); e != why {
				t.Fatalf("Check(%q, %+v) is %d, not %d", s, c, e, why)
			}
		}
	}
}

func TestDoLong(t *testing.T) {
	const n = 100000
	s := strings.Repeat("\u20ac", n)
	if got, e := text.Do(s, tdel(0, n)); got != "" || e != api.OK {
		t.Error("all of it is to go")
	}
	if got, e := text.Do(s, tdel(1, n-1)); got != "\u20ac" || e != api.OK {
		t.Error("all but the first is to go")
	}
	if got, e := text.Do(s, tins(n-1, s)); got != s+s || e != api.OK {
		t.Error("as much again is to come")
	}
	if _, e := text.Do(s, tdel(1, n)); e != api.ErrPlace {
		t.Error("one too many")
	}
}
