package text_test

import (
	"strings"
	"testing"

	"conciliator/text"
)

func TestLen(t *testing.T) {
	rows := []struct {
		s string
		n int
	}{
		{"", 0},
		{"a", 1},
		{"\x00", 1},
		{"ab", 2},
		{"h\u00e9", 2},
		{"\u007f\u0080\u07ff\u0800\uffff\U00010000\U0010ffff", 7}, // of one to four bytes, the first and the last of each
		{"\ud7ff\ue000\ufeff\ufffd\ufffe", 5},
		{"e\u0301", 2},          // a mark that stands on another character is one
		{"\U0001f469\u200d", 2}, // so is one that joins
		{"\r\n", 2},
		{"\xff", 1},
		{"\xff\xfe\xfd", 3},
		{"\xffab", 3},
		{"a\xffb", 3},
		{"ab\xff", 3},
		{"\x80\x80", 2},
		{"\u00e9\x80", 2},
		{"\xc3", 1},
		{"\xc3a", 2},
		{"\xe2\x82", 2}, // cut off
		{"\xe2\x82\u20ac", 3},
		{"a\xf0\x9f\x98", 4},
		{"\xf0\x9f\x98a", 4},
		{"\xf0\x9f\u00e9", 3},
		{"\xc0\x80", 2},         // longer than it need be
		{"\xe0\x80\x80", 3},     // so is this
		{"\xf0\x80\x80\x80", 4}, // and this
		{"\xed\xa0\x80", 3},     // half a pair
		{"\xf4\x90\x80\x80", 4}, // behind the last one
		{"\xf8\x88\x80\x80\x80", 5},
		{strings.Repeat("\u20ac", 100000), 100000},
		{strings.Repeat("\xe2\x82", 100000), 200000},
	}
	for _, r := range rows {
		if n := text.Len(r.s); n != r.n {
			t.Errorf("Len(%.20q) is %d, not %d", r.s, n, r.n)
		}
	}
}

func TestLenOfEachCharacter(t *testing.T) {
	for c := range rune(0x10ffff + 1) {
		if 0xd800 <= c && c <= 0xdfff {
			continue
		}
		if s := string(c); text.Len(s) != 1 || text.Len(s+"a"+s) != 3 {
			t.Fatalf("%q", s)
		}
		if s := string(c); len(s) > 1 && (text.Len(s[1:]) != len(s)-1 || text.Len(s[:len(s)-1]) != len(s)-1) {
			t.Fatalf("%q, cut", s)
		}
	}
}

func TestLenOfAnyBytes(t *testing.T) {
	for s := range shortTexts(oddBytes, 4) {
		if n := text.Len(s); n != len(row(s)) {
			t.Fatalf("Len(%q) is %d, not %d", s, n, len(row(s)))
		}
	}
}
