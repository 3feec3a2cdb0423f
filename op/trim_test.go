package op_test

import (
	"math"
	"testing"

	"conciliator/api"
	"conciliator/op"
)

// short says what is trimmed to what, also further down in a value, and where it is joined of any two parts; what is trimmed stays as it is.
func short(t *testing.T, l []api.Comp, want ...api.Comp) {
	t.Helper()
	for _, p := range [][]api.Step{nil, way(nth(0)), way(key("k"), nth(4)), way(api.Step{List: true, I: -1, Key: "\xff"})} {
		all, want := below(l, p...), below(want, p...)
		if got := op.Trim(all); !alike(got, want) {
			t.Errorf("Trim(%+v): %+v, not %+v", all, got, want)
		}
		if got := op.Trim(want); !alike(got, want) {
			t.Errorf("trimmed again, %+v is %+v", want, got)
		}
		for i := range len(all) + 1 {
			if got := op.Join(all[:i], all[i:]); !alike(got, want) {
				t.Errorf("Join(%+v, %+v): %+v, not %+v", all[:i], all[i:], got, want)
			}
		}
	}
}

// stays says that these are not one together, nor nothing.
func stays(t *testing.T, l ...api.Comp) {
	t.Helper()
	short(t, l, l...)
}

// apart says that two that are one at the same path are not at other paths, nor with something between them.
func apart(t *testing.T, a, b api.Comp) {
	t.Helper()
	if len(op.Trim(ops(a, b))) > 1 {
		t.Errorf("%+v and %+v are not one", a, b)
	}
	ways := [][]api.Step{nil, way(nth(0)), way(nth(1)), way(key("k")), way(key("")), way(key("k"), nth(0)), way(key("m"), nth(0)), way(key("k"), nth(1))}
	for i, p := range ways {
		for j, q := range ways {
			if i != j {
				stays(t, path(a, p...), path(b, q...))
			}
		}
		for _, c := range ordinary() {
			if c.Kind != a.Kind {
				stays(t, path(a, p...), path(c, p...), path(b, p...))
			}
			c.Path = behind(p, way(key("x")))
			stays(t, path(a, p...), c, path(b, p...))
		}
	}
}

func TestTrimNothing(t *testing.T) {
	short(t, nil)
	for _, c := range behind(ordinary(), ladenOnes()) {
		stays(t, c)
	}
	stays(t, ordinary()...)
	for _, a := range ordinary() {
		for _, b := range ordinary() {
			if a.Kind != b.Kind {
				stays(t, a, b)
				stays(t, a, b, a)
			}
		}
	}
	for _, c := range ops(del("k"), ins(1, txt("x")), rem(1), set(1, txt("x")), move(1, 2), tdel(1, 2), api.Comp{}, kind(10, add(0)), kind(255, move(1, 1))) {
		stays(t, c, c)
		stays(t, c, c, c)
	}
	stays(t, ins(0, txt("x")), rem(0))
	stays(t, set(0, txt("x")), set(0, txt("y")))
	stays(t, put("k", txt("x")), del("k"))
	stays(t, del("k"), put("k", txt("x")))
	stays(t, tins(0, "x"), tdel(0, 1))
	stays(t, move(1, 2), move(2, 1))
	stays(t, tdel(1, 1), tdel(1, 1))
}

func TestTrimAdds(t *testing.T) {
	short(t, ops(add(0)))
	short(t, ops(add(0), add(0), add(0)))
	short(t, ops(add(1), add(-1)))
	short(t, ops(add(1), add(2)), add(3))
	short(t, ops(add(1), add(0), add(2)), add(3))
	short(t, ops(add(1), add(2), add(-3)))
	short(t, ops(add(1), add(2), add(-3), add(4)), add(4))
	short(t, ops(add(1), add(-1), add(2), add(-2), add(5)), add(5))
	short(t, ops(add(math.MaxInt64), add(1)), add(math.MinInt64))
	short(t, ops(add(math.MinInt64), add(-1)), add(math.MaxInt64))
	short(t, ops(add(math.MinInt64), add(math.MinInt64)))
	short(t, ops(add(1<<62), add(1<<62), add(1<<62), add(1<<62)))
	short(t, ops(add(math.MaxInt64), add(math.MaxInt64), add(3)), add(1))
	apart(t, add(1), add(2))
	apart(t, add(1), add(-1))
	stays(t, add(1), path(add(2), nth(0)), add(3), path(add(4), nth(0)))

	// What comes to nothing leaves the one ahead of it to be the last one.
	k := path(add(1), key("k"))
	short(t, ops(k, add(5), add(-5), k), path(add(2), key("k")))
	short(t, ops(k, add(0), k), path(add(2), key("k")))
	short(t, ops(k, move(1, 1), k), path(add(2), key("k")))
	short(t, ops(tins(0, "a"), k, path(add(-1), key("k")), tins(1, "b")), tins(0, "ab"))
	short(t, ops(tins(0, "a"), tins(1, "b"), path(add(0), key("k")), tins(2, "c"), k, path(add(-1), key("k")), tins(3, "d"), tins(3, "e")), tins(0, "abcd"), tins(3, "e"))
	short(t, ops(put("k", number(1)), k, path(add(-1), key("k")), put("k", number(2))), put("k", number(2)))
	short(t, ops(add(1), k, path(add(-1), key("k")), add(-1)))
}

func TestTrimMoves(t *testing.T) {
	short(t, ops(move(0, 0)))
	short(t, ops(move(3, 3), move(2, 2)))
	short(t, ops(move(1, 2), move(2, 2), move(1, 2)), move(1, 2), move(1, 2))
	short(t, ops(move(math.MaxInt, math.MaxInt), move(-1, -1)))
	stays(t, move(0, 1))
	stays(t, move(1, 0), move(0, 1))
	stays(t, kind(api.Rem, move(0, 0)), kind(api.Ins, move(1, 1)), kind(api.Set, move(2, 2)), kind(0, move(3, 3)))
	stays(t, tdel(0, 0), kind(api.Put, add(0)), kind(0, add(0)))
	stays(t, api.Comp{Kind: api.Add, N: 1, I: 2, J: 2})
	stays(t, api.Comp{Kind: api.Move, I: 1})
}

func TestTrimPuts(t *testing.T) {
	x, y := txt("x"), list(txt("y"))
	short(t, ops(put("k", x), put("k", y)), put("k", y))
	short(t, ops(put("k", y), put("k", x)), put("k", x))
	short(t, ops(put("k", x), put("k", y), put("k", api.Val{})), put("k", api.Val{}))
	short(t, ops(put("k", x), put("k", y), put("m", x), put("m", y)), put("k", y), put("m", y))
	short(t, ops(put("", x), put("", y)), put("", y))
	short(t, ops(put("\xff", x), put("\xff", y)), put("\xff", y))
	stays(t, put("k", x), put("m", x))
	stays(t, put("k", x), put("m", x), put("k", y))
	stays(t, put("k", x), put("", x))
	stays(t, put("k", x), put("kk", x))
	apart(t, put("k", x), put("k", y))
	short(t, ops(put("k", x), path(add(0), key("k")), put("k", y)), put("k", y))
}

func TestTrimTins(t *testing.T) {
	short(t, ops(tins(0, "a"), tins(1, "b")), tins(0, "ab"))
	short(t, ops(tins(3, "ab"), tins(5, "c"), tins(6, "de"), tins(8, "f")), tins(3, "abcdef"))
	stays(t, tins(3, "ab"), tins(2, "c"))
	stays(t, tins(3, "ab"), tins(3, "c"))
	stays(t, tins(3, "ab"), tins(4, "c"))
	stays(t, tins(3, "ab"), tins(6, "c"))
	short(t, ops(tins(3, "ab"), tins(4, "c"), tins(5, "d")), tins(3, "ab"), tins(4, "cd"))
	short(t, ops(tins(3, "ab"), tins(6, "c"), tins(7, "d"), tins(5, "e")), tins(3, "ab"), tins(6, "cd"), tins(5, "e"))
	short(t, ops(tins(3, "ab"), tins(5, "cd"), tins(6, "e"), tins(7, "f")), tins(3, "abcd"), tins(6, "ef"))

	// Places are characters, not bytes.
	short(t, ops(tins(0, "\u00e9\u20ac"), tins(2, "\U0001f600"), tins(3, "z")), tins(0, "\u00e9\u20ac\U0001f600z"))
	stays(t, tins(0, "\u00e9"), tins(2, "b"))
	stays(t, tins(0, "\u20ac"), tins(3, "b"))
	stays(t, tins(0, "\u20ac\u00e9"), tins(1, "b"))
	stays(t, tins(0, "\U0001f600"), tins(4, "b"))

	apart(t, tins(0, "a"), tins(1, "b"))
	apart(t, tins(2, "\u20ac"), tins(3, "b"))
	stays(t, tins(0, "a"), kind(api.Tdel, tins(1, "b")), kind(api.Ins, tins(1, "b")))
	stays(t, api.Comp{Kind: api.Ins, I: 0, S: "a"}, api.Comp{Kind: api.Ins, I: 1, S: "b"})
}

// Bytes that are no part of a character are characters, but with those laid behind them they may be one.
func TestTrimTinsOfAnyBytes(t *testing.T) {
	short(t, ops(tins(0, "\xff"), tins(1, "\xc3"), tins(2, "z")), tins(0, "\xff\xc3z"))
	short(t, ops(tins(0, "\xc3"), tins(1, "\xa9"), tins(1, "z")), tins(0, "\xc3\xa9z"))
	stays(t, tins(0, "\xc3\xa9"), tins(2, "z"))
	short(t, ops(tins(0, "\xc3"), tins(1, "\xa9"), tins(2, "z")), tins(0, "\xc3\xa9"), tins(2, "z"))
	short(t, ops(tins(5, "a\xf0\x9f"), tins(8, "\x98"), tins(9, "\x80\x80b"), tins(9, "z")), tins(5, "a\xf0\x9f\x98\x80\x80bz"))
	short(t, ops(tins(0, ""), tins(0, ""), tins(0, "a"), tins(1, ""), tins(1, "b")), tins(0, "ab"))
	short(t, ops(tins(math.MaxInt, "a"), tins(math.MinInt, "b")), tins(math.MaxInt, "ab"))
	short(t, ops(tins(-1, "a"), tins(0, "b")), tins(-1, "ab"))
	// Each of many bytes, at the end of those ahead of it.
	for _, s := range []string{"a\u00e9\u20ac\U0001f600\xff\u20ac", "\xe2\x82\xc3\xa9\xf0\x9f\x98\x80\x80\x80", "\xf0\xf0\x9f\x9f\x98\x80\u00e9\xc3"} {
		for size := 1; size < 5; size++ {
			var l []api.Comp
			for i := 0; i < len(s); i += size {
				l = append(l, tins(7+len([]rune(s[:i])), s[i:min(len(s), i+size)]))
			}
			short(t, l, tins(7, s))
		}
	}
}

func TestJoin(t *testing.T) {
	x, y := txt("x"), txt("y")
	rows := []struct{ a, b, want []api.Comp }{
		{nil, nil, nil},
		{ops(add(1)), nil, ops(add(1))},
		{nil, ops(add(1)), ops(add(1))},
		{ops(add(0)), nil, nil},
		{nil, ops(add(1), add(-1)), nil},
		{ops(add(1)), ops(add(-1)), nil},
		{ops(add(1)), ops(add(2)), ops(add(3))},
		{ops(rem(0), add(1)), ops(add(2), rem(0)), ops(rem(0), add(3), rem(0))},
		{ops(rem(0), add(1)), ops(add(-1), rem(0)), ops(rem(0), rem(0))},
		{ops(put("k", x)), ops(put("k", y), put("m", x)), ops(put("k", y), put("m", x))},
		{ops(tins(1, "ab")), ops(tins(3, "c")), ops(tins(1, "abc"))},
		{ops(tins(1, "ab")), ops(tins(2, "c")), ops(tins(1, "ab"), tins(2, "c"))},
		{ops(rem(1), rem(0)), ops(rem(0), ins(0, x)), ops(rem(1), rem(0), rem(0), ins(0, x))},
		{ops(add(1), add(1)), ops(path(add(2), nth(0)), add(3)), ops(add(2), path(add(2), nth(0)), add(3))},
		{ops(tins(0, "a"), add(1)), ops(add(-1), tins(1, "b")), ops(tins(0, "ab"))},
	}
	for _, r := range rows {
		if got := op.Join(r.a, r.b); !alike(got, r.want) {
			t.Errorf("Join(%+v, %+v): %+v, not %+v", r.a, r.b, got, r.want)
		}
	}
	all := behind(ordinary(), ladenOnes())
	if got := op.Join(all, nil); !alike(got, all) {
		t.Errorf("with nothing behind it: %+v", got)
	}
	if got := op.Join(nil, all); !alike(got, all) {
		t.Errorf("with nothing ahead of it: %+v", got)
	}
}

// Neither has a bound.
func TestTrimMany(t *testing.T) {
	var one, many []api.Comp
	for i := range 300 {
		one = append(one, tins(i, "x"))
		many = append(many, rem(i))
	}
	if got := op.Join(one, one); len(got) != 2 || len(got[0].S) != 300 || len(got[1].S) != 300 {
		t.Errorf("%+v", got)
	}
	if got := op.Join(many, many); !alike(got, behind(many, many)) {
		t.Errorf("%d of 600", len(got))
	}
}
