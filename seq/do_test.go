package seq_test

import (
	"reflect"
	"strings"
	"testing"

	"conciliator/api"
	"conciliator/seq"
)

func TestDo(t *testing.T) {
	rows := []struct {
		l    string
		c    api.Comp
		want string
	}{
		{"", ins(0, "x"), "x"},
		{"a", ins(0, "x"), "xa"},
		{"a", ins(1, "x"), "ax"},
		{"abc", ins(0, "x"), "xabc"},
		{"abc", ins(1, "x"), "axbc"},
		{"abc", ins(2, "x"), "abxc"},
		{"abc", ins(3, "x"), "abcx"},
		{"abc", to(0, ins(2, "x")), "abxc"},

		{"a", rem(0), ""},
		{"abc", rem(0), "bc"},
		{"abc", rem(1), "ac"},
		{"abc", rem(2), "ab"},
		{"abc", to(0, rem(2)), "ab"},

		{"a", set(0, "x"), "x"},
		{"abc", set(0, "x"), "xbc"},
		{"abc", set(1, "x"), "axc"},
		{"abc", set(2, "x"), "abx"},
		{"abc", to(0, set(2, "x")), "abx"},

		{"a", move(0, 0), "a"},
		{"ab", move(0, 1), "ba"},
		{"ab", move(1, 0), "ba"},
		{"abcd", move(0, 0), "abcd"}, // to where it was
		{"abcd", move(1, 1), "abcd"},
		{"abcd", move(3, 3), "abcd"},
		{"abcd", move(0, 1), "bacd"},
		{"abcd", move(0, 2), "bcad"},
		{"abcd", move(0, 3), "bcda"}, // there is none: at the end
		{"abcd", move(1, 0), "bacd"},
		{"abcd", move(1, 2), "acbd"},
		{"abcd", move(1, 3), "acdb"},
		{"abcd", move(2, 0), "cabd"},
		{"abcd", move(2, 1), "acbd"},
		{"abcd", move(2, 3), "abdc"},
		{"abcd", move(3, 0), "dabc"},
		{"abcd", move(3, 1), "adbc"},
		{"abcd", move(3, 2), "abdc"},
	}
	for _, r := range rows {
		for _, c := range comps(r.c, laden(r.c)) {
			l, e := seq.Do(row(r.l), c)
			if word(l) != r.want || len(l) != len(r.want) || e != api.OK {
				t.Errorf("Do(%q, %+v) is %q, %d", r.l, c, word(l), e)
			}
		}
	}
}

// A list that is nil and one that is empty are the same.
func TestDoToNone(t *testing.T) {
	for _, l := range [][]api.Val{nil, {}, row("abc")[:0]} {
		got, e := seq.Do(l, ins(0, "x"))
		if e != api.OK || len(got) != 1 || got[0].S != "x" {
			t.Errorf("%+v, %d", got, e)
		}
		for _, c := range comps(ins(1, "x"), rem(0), set(0, "x"), move(0, 0)) {
			if got, e := seq.Do(l, c); e != api.ErrPlace || len(got) > 0 {
				t.Errorf("%+v: %+v, %d", c, got, e)
			}
		}
	}
}

// Values go over as they are, sound or not.
func TestDoKeepsValues(t *testing.T) {
	l := []api.Val{rich(), number(7), {}, {Kind: 200, N: 1, S: "\xff"}, list(list()), object(at("k", txt("x")))}
	v := gives(rich(), ins(0, "")).V
	rows := []struct {
		c    api.Comp
		want []api.Val
	}{
		{gives(v, ins(1, "")), []api.Val{l[0], v, l[1], l[2], l[3], l[4], l[5]}},
		{gives(v, ins(6, "")), []api.Val{l[0], l[1], l[2], l[3], l[4], l[5], v}},
		{rem(2), []api.Val{l[0], l[1], l[3], l[4], l[5]}},
		{gives(v, set(4, "")), []api.Val{l[0], l[1], l[2], l[3], v, l[5]}},
		{gives(api.Val{}, set(0, "")), []api.Val{{}, l[1], l[2], l[3], l[4], l[5]}},
		{move(0, 4), []api.Val{l[1], l[2], l[3], l[4], l[0], l[5]}},
		{move(5, 2), []api.Val{l[0], l[1], l[5], l[2], l[3], l[4]}},
	}
	for _, r := range rows {
		got, e := seq.Do(l, r.c)
		if e != api.OK || !reflect.DeepEqual(twinList(got), twinList(r.want)) {
			t.Errorf("%+v: %+v, %d", r.c, got, e)
		}
	}
}

// plainDo is what the chapter says of Check and Do, done to a text letter by letter.
func plainDo(s string, c api.Comp) (string, api.Errno) {
	end := len(s)
	if c.Kind == api.Ins {
		end++
	}
	if c.I < 0 || c.I >= end || c.Kind == api.Move && (c.J < 0 || c.J >= end) {
		return "", api.ErrPlace
	}
	var out strings.Builder
	rest := 0 // how many of what is left are out
	for i := range len(s) + 1 {
		if i == c.I && (c.Kind == api.Ins || c.Kind == api.Set) {
			out.WriteString(c.V.S)
		}
		if i == c.I && c.Kind != api.Ins {
			continue
		}
		if c.Kind == api.Move && rest == c.J {
			out.WriteByte(s[c.I])
		}
		if i < len(s) {
			out.WriteByte(s[i])
			rest++
		}
	}
	return out.String(), api.OK
}

func TestDoAnywhere(t *testing.T) {
	const whole = "abcdefg"
	for n := range len(whole) + 1 {
		s := whole[:n]
		for _, c := range reaching(n, "x") {
			want, why := plainDo(s, c)
			got, e := seq.Do(row(s), c)
			if word(got) != want || len(got) != len(want) || e != why {
				t.Errorf("Do(%q, %+v) is %q, %d, not %q, %d", s, c, word(got), e, want, why)
			}
			if e := seq.Check(n, c); e != why {
				t.Errorf("Check(%d, %+v) is %d, not %d", n, c, e, why)
			}
		}
	}
}

func TestDoLong(t *testing.T) {
	const n = 100000
	s := strings.Repeat("abcde", n/5)
	for _, c := range comps(ins(n, "x"), ins(0, "x"), rem(n-1), rem(0), set(n-1, "x"), move(n-1, 0), move(1, n-1), move(n-1, n-1)) {
		want, _ := plainDo(s, c)
		if l, e := seq.Do(row(s), c); e != api.OK || len(l) != len(want) || word(l) != want {
			t.Errorf("%+v: %d, %d", c, len(l), e)
		}
	}
	if _, e := seq.Do(row(s), rem(n)); e != api.ErrPlace {
		t.Error("one beyond")
	}
}
