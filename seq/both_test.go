package seq_test

import (
	"testing"

	"conciliator/api"
	"conciliator/seq"
)

// doAll does components, one behind the other: each may be done.
func doAll(t *testing.T, l []api.Val, all []api.Comp) []api.Val {
	t.Helper()
	for _, c := range all {
		out, e := seq.Do(l, c)
		if e != api.OK {
			t.Fatalf("Do(%q, %+v) tells %d, of %+v", word(l), c, e, all)
		}
		l = out
	}
	return l
}

// bothWays holds two ways against each other: a, and b behind it, and b, and a behind it.
func bothWays(t *testing.T, l []api.Val, a, b api.Comp, left bool) string {
	t.Helper()
	one := doAll(t, doAll(t, l, comps(a)), seq.Turn(b, a, !left))
	two := doAll(t, doAll(t, l, comps(b)), seq.Turn(a, b, left))
	if word(one) != word(two) || len(one) != len(two) {
		t.Fatalf("%q, %+v and %+v, left %v: %q and %q", word(l), a, b, left, word(one), word(two))
	}
	return word(one)
}

func TestBothWays(t *testing.T) {
	const whole = "abcdef"
	for n := range len(whole) + 1 {
		for _, a := range possible(n, "x") {
			for _, b := range possible(n, "y") {
				bothWays(t, row(whole[:n]), a, b, true)
				bothWays(t, row(whole[:n]), a, b, false)
			}
		}
	}
}

// Where both can't have their way, the left one has it.
func TestBothWaysAsMeant(t *testing.T) {
	rows := []struct {
		a, b        api.Comp
		left, right string
	}{
		{ins(2, "x"), ins(2, "y"), "abxycdef", "abyxcdef"},
		{ins(0, "x"), ins(6, "y"), "xabcdefy", "xabcdefy"},
		{ins(2, "x"), rem(2), "abxdef", "abxdef"},
		{ins(2, "x"), set(2, "y"), "abxydef", "abxydef"},
		{ins(2, "x"), move(5, 2), "abxfcde", "abfxcde"},
		{ins(2, "x"), move(2, 5), "abxdefc", "abxdefc"},
		{rem(2), rem(2), "abdef", "abdef"},
		{rem(2), rem(3), "abef", "abef"},
		{rem(2), set(2, "y"), "abdef", "abdef"},
		{rem(2), move(2, 5), "abdef", "abdef"},
		{rem(2), move(5, 2), "abfde", "abfde"},
		{set(2, "x"), set(2, "y"), "abxdef", "abydef"},
		{set(2, "x"), set(3, "y"), "abxyef", "abxyef"},
		{set(2, "x"), move(2, 5), "abdefx", "abdefx"},
		{set(2, "x"), move(2, 2), "abxdef", "abxdef"},
		{move(2, 5), move(2, 0), "abdefc", "cabdef"},
		{move(2, 2), move(2, 0), "abcdef", "cabdef"},
		{move(2, 5), move(3, 5), "abefcd", "abefdc"},
		{move(0, 5), move(5, 0), "fbcdea", "fbcdea"},
		{move(0, 2), ins(1, "y"), "ybcadef", "ybcadef"},
		{move(0, 2), ins(3, "y"), "bcaydef", "bcyadef"},
	}
	for _, r := range rows {
		if s := bothWays(t, row("abcdef"), r.a, r.b, true); s != r.left {
			t.Errorf("%+v and %+v, left: %q", r.a, r.b, s)
		}
		if s := bothWays(t, row("abcdef"), r.a, r.b, false); s != r.right {
			t.Errorf("%+v and %+v, not left: %q", r.a, r.b, s)
		}
	}
}
