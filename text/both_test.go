package text_test

import (
	"testing"

	"conciliator/api"
	"conciliator/text"
)

// doAll does components, one behind the other.
func doAll(t *testing.T, s string, l []api.Comp) string {
	t.Helper()
	for _, c := range l {
		out, e := text.Do(s, c)
		if e != api.OK {
			t.Fatalf("Do(%q, %+v) tells %d, of %+v", s, c, e, l)
		}
		s = out
	}
	return s
}

// possible are all components that may be done to a text, with these to put in.
func possible(s string, texts ...string) []api.Comp {
	var all []api.Comp
	for _, c := range reaching(len(row(s)), texts...) {
		if text.Check(s, c) == api.OK {
			all = append(all, c)
		}
	}
	return all
}

// bothWays holds two ways against each other: a, and b behind it, and b, and a behind it.
func bothWays(t *testing.T, s string, a, b api.Comp, left bool) string {
	t.Helper()
	one := doAll(t, doAll(t, s, comps(a)), text.Turn(b, a, !left))
	two := doAll(t, doAll(t, s, comps(b)), text.Turn(a, b, left))
	if one != two {
		t.Fatalf("%q, %+v and %+v, left %v: %q and %q", s, a, b, left, one, two)
	}
	return one
}

func TestBothWays(t *testing.T) {
	const whole = "a\u00e9\u20ac\U0001f600bc\u00fc"
	s, n := "", 0
	for _, more := range append(row(whole), "") {
		all := possible(s, "", "x", "\u20acy", "\U0001f601\u00fcz")
		n += len(all)
		for _, a := range all {
			for _, b := range all {
				bothWays(t, s, a, b, true)
				bothWays(t, s, a, b, false)
			}
		}
		s += more
	}
	if n < 200 {
		t.Errorf("%d components", n)
	}
}

// Bytes that are no part of a character are characters, too, as long as what is done makes none of them one.
func TestBothWaysOfAnyBytes(t *testing.T) {
	for s := range shortTexts("a\xff\x80\xf5", 4) {
		all := possible(s, "", "x", "\u20ac\xff", "\xc0")
		for _, a := range all {
			for _, b := range all {
				bothWays(t, s, a, b, true)
				bothWays(t, s, a, b, false)
			}
		}
	}
}

// Of two that are put in at one place the left one stands ahead; what one takes the other's text stays.
func TestBothWaysAsMeant(t *testing.T) {
	rows := []struct {
		a, b        api.Comp
		left, right string
	}{
		{tins(2, "x"), tins(2, "y"), "abxycdef", "abyxcdef"},
		{tins(0, "x"), tins(6, "y"), "xabcdefy", "xabcdefy"},
		{tdel(1, 4), tins(3, "xy"), "axyf", "axyf"},
		{tdel(1, 4), tins(1, "xy"), "axyf", "axyf"},
		{tdel(1, 4), tins(5, "xy"), "axyf", "axyf"},
		{tdel(1, 3), tdel(2, 3), "af", "af"},
		{tdel(1, 2), tdel(1, 2), "adef", "adef"},
		{tdel(0, 6), tdel(2, 1), "", ""},
	}
	for _, r := range rows {
		if s := bothWays(t, "abcdef", r.a, r.b, true); s != r.left {
			t.Errorf("%+v and %+v, left: %q", r.a, r.b, s)
		}
		if s := bothWays(t, "abcdef", r.a, r.b, false); s != r.right {
			t.Errorf("%+v and %+v, not left: %q", r.a, r.b, s)
		}
	}
}
