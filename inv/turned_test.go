package inv_test

import (
	"math"
	"strings"
	"testing"

	"conciliator/api"
	"conciliator/comp"
	"conciliator/inv"
	"conciliator/op"
)

// turns says that Turned answers this of a component, wherever the value stands that it works on, and that this undoes it.
func turns(t *testing.T, v api.Val, c, want api.Comp) {
	t.Helper()
	for _, p := range ways() {
		w, c, want := inside(v, p), path(c, p...), path(want, p...)
		got, e := inv.Turned(w, c)
		if e != api.OK || !alike(ops(got), ops(want)) {
			t.Errorf("Turned(%+v, %+v): %+v, %d, not %+v", w, c, got, e, want)
		}
		all, e := inv.All(w, ops(c))
		if e != api.OK || !alike(all, ops(want)) {
			t.Errorf("All(%+v, %+v): %+v, %d, not %+v", w, c, all, e, want)
		}
		if back := do(t, do(t, w, ops(c)), ops(want)); !alikeValues(back, w) {
			t.Errorf("the test itself is wrong: %+v, %+v", c, want)
		}
	}
}

// refuses says that Turned names this error, and answers nothing beside it; and so does All of the one component.
func refuses(t *testing.T, v api.Val, c api.Comp, want api.Errno) {
	t.Helper()
	got, e := inv.Turned(v, c)
	if e != want || !nought(got) {
		t.Errorf("Turned(%+v, %+v): %+v, %d, not %d", v, c, got, e, want)
	}
	all, e := inv.All(v, ops(c))
	if e != want || len(all) > 0 {
		t.Errorf("All(%+v, %+v): %+v, %d, not %d", v, c, all, e, want)
	}
}

// nought says whether a component has nothing in any field.
func nought(c api.Comp) bool { return alike(ops(c), ops(api.Comp{})) }

// ways are paths: none, through lists, through objects, through both.
func ways() [][]api.Step {
	return [][]api.Step{
		nil, way(nth(0)), way(nth(2), nth(1)), way(key("k")), way(key(""), key("k")),
		way(key("\u20ac"), nth(1), key("k")), way(nth(1), key("a"), key("a"), nth(0)),
	}
}

// inside lays a value to where a path leads; what stands beside it is of the same kind, so that a step astray is told by another answer.
func inside(v api.Val, p []api.Step) api.Val {
	for n := len(p) - 1; n >= 0; n-- {
		s := p[n]
		if s.List {
			l := list(fitting(api.Ins), number(7), txt("beside"), object(at("k", txt("beside"))))
			l.L[s.I] = v
			v = l
		} else {
			v = object(at(s.Key, v), at(s.Key+"z", fitting(api.Put)))
		}
	}
	return v
}

func TestAdd(t *testing.T) {
	rows := []struct{ n, want int64 }{
		{2, -2}, {-2, 2}, {0, 0}, {1, -1}, {math.MaxInt64, -math.MaxInt64}, {-math.MaxInt64, math.MaxInt64}, {math.MinInt64, math.MinInt64},
	}
	for _, r := range rows {
		for _, n := range []int64{0, 5, -1, math.MaxInt64, math.MinInt64} {
			turns(t, number(n), add(r.n), add(r.want))
		}
	}
}

func TestPut(t *testing.T) {
	v := object(at("", txt("none")), at("a", number(1)), at("k", list(txt("x"), object(at("p", number(-3))))), at("n", api.Val{}))
	for _, x := range []api.Val{number(2), {}, list(txt("y")), object(at("a", number(1)))} {
		for _, f := range v.O {
			turns(t, v, put(f.Key, x), put(f.Key, f.V))
		}
		for _, k := range []string{"\x00", "b", "l", "z", "aa", "A", "\u20ac"} {
			turns(t, v, put(k, x), del(k))
			turns(t, object(), put(k, x), del(k))
		}
	}
	turns(t, v, put("a", number(1)), put("a", number(1)))
}

func TestDel(t *testing.T) {
	v := object(at("", txt("none")), at("a", number(1)), at("k", list(txt("x"), object(at("p", number(-3))))), at("n", api.Val{}), at("\u20ac", object()))
	for _, f := range v.O {
		turns(t, v, del(f.Key), put(f.Key, f.V))
		turns(t, object(f), del(f.Key), put(f.Key, f.V))
	}
}

// elements is a list of all kinds of values.
func elements() api.Val {
	return list(
		number(1), txt("b\u20ac"), list(number(2), list()), api.Val{Kind: api.Bool, N: 1},
		object(at("k", number(3)), at("m", txt(""))), api.Val{}, txt("last"),
	)
}

func TestInsAndRem(t *testing.T) {
	v := elements()
	for n := range len(v.L) + 1 {
		l := list(v.L[:n]...)
		for i := range n + 1 {
			turns(t, l, ins(i, txt("new")), rem(i))
			turns(t, l, ins(i, list(number(8))), rem(i))
		}
		for i := range n {
			turns(t, l, rem(i), ins(i, v.L[i]))
		}
	}
}

func TestSet(t *testing.T) {
	v := elements()
	for i, x := range v.L {
		turns(t, v, set(i, txt("new")), set(i, x))
		turns(t, v, set(i, object(at("k", list()))), set(i, x))
		turns(t, v, set(i, x), set(i, x))
		turns(t, list(x), set(0, api.Val{}), set(0, x))
	}
}

func TestMove(t *testing.T) {
	v := elements()
	for i := range v.L {
		for j := range v.L {
			turns(t, v, move(i, j), move(j, i))
		}
	}
}

func TestTins(t *testing.T) {
	rows := []struct {
		s string
		n int64
	}{{"x", 1}, {"xyz", 3}, {"\u00e9", 1}, {"\u20acx\u20ac", 3}, {"\U0001f600", 1}, {"a\u00e9\u20ac\U0001f600", 4}, {"\x00\ufffd", 2}, {"e\u0301", 2}}
	for _, s := range []string{"", "a", "\u20ac", "a\u00e9\u20ac\U0001f600b"} {
		for i := range len([]rune(s)) + 1 {
			for _, r := range rows {
				turns(t, txt(s), tins(i, r.s), tdel(i, r.n))
			}
		}
	}
	long := strings.Repeat("\u20acx", 30000)
	turns(t, txt("ab"), tins(1, long), tdel(1, 60000))
}

func TestTdel(t *testing.T) {
	for _, s := range []string{"a", "\u20ac", "abcd", "a\u00e9\u20ac\U0001f600b", "\U0001f600\ufffd\x00e\u0301"} {
		chars := []rune(s)
		for i := range chars {
			for to := i + 1; to <= len(chars); to++ {
				turns(t, txt(s), tdel(i, int64(to-i)), tins(i, string(chars[i:to])))
			}
		}
	}
	long := strings.Repeat("\u20acx", 30000)
	turns(t, txt(long), tdel(1, 59998), tins(1, long[3:len(long)-1]))
	// what is no part of a character stays
	turns(t, txt("\xffab\xe2\x82"), tdel(1, 2), tins(1, "ab"))
	turns(t, txt("\xe2\x82a\u20ac"), tdel(3, 1), tins(3, "\u20ac"))
}

// What the kind does not speak of is nought in the answer, and its lists have no memory of others.
func TestNothingElseIsAnswered(t *testing.T) {
	for _, c := range ordinary() {
		c.Path = way(key("behind"))[:0]
		c.V.L, c.V.O = c.V.L[:0:0], c.V.O[:0:0]
		got, e := inv.Turned(fitting(c.Kind), c)
		if e != api.OK || len(got.Path) > 0 || cap(got.Path) > 0 {
			t.Errorf("Turned of %+v: %+v, %d", c, got, e)
		}
	}
}

func TestNoSuchComponent(t *testing.T) {
	for _, c := range ordinary() {
		v := fitting(c.Kind)
		one, two, three, four, five := c, c, c, c, c
		one.I, two.J, three.Key, four.V, five.S = -1, -1, "\xff", api.Val{Kind: 6}, "\xff"
		long := path(c, make([]api.Step, 17)...)
		for _, d := range ops(one, two, three, four, five, path(c, nth(-1)), path(c, key("\xff")), long) {
			refuses(t, v, d, api.ErrComp)
			refuses(t, number(5), d, api.ErrComp)
			refuses(t, list(), d, api.ErrComp)
		}
	}
	for _, c := range ops(api.Comp{}, api.Comp{Kind: 10}, api.Comp{Kind: 255}, tins(0, ""), tdel(0, 0), tdel(0, -1), put("a", nested(16)), ins(0, nested(16)), set(0, nested(16))) {
		refuses(t, fitting(c.Kind), c, api.ErrComp)
	}
}

func TestNoSuchPath(t *testing.T) {
	for _, c := range ordinary() {
		v := list(fitting(c.Kind), number(1), object(at("k", fitting(c.Kind))))
		for _, p := range [][]api.Step{way(nth(3)), way(key("k")), way(nth(1), nth(0)), way(nth(2), key("l")), way(nth(2), nth(0)), way(nth(2), key("k"), key("none"), nth(0))} {
			refuses(t, v, path(c, p...), api.ErrPath)
		}
	}
}

func TestOfAnotherKind(t *testing.T) {
	all := []api.Val{{}, {Kind: api.Bool}, number(5), txt("abc"), fitting(api.Ins), fitting(api.Put), {Kind: 6}, {Kind: 255}}
	for _, c := range ordinary() {
		for _, v := range all {
			want := api.ErrKind
			if v.Kind == fitting(c.Kind).Kind {
				continue
			}
			refuses(t, v, c, want)
			refuses(t, object(at("k", list(v))), path(c, key("k"), nth(0)), want)
		}
	}
}

func TestNoSuchKeyOrPlace(t *testing.T) {
	o := object(at("b", number(1)), at("d", number(2)))
	for _, k := range []string{"", "a", "c", "e", "bb", "B"} {
		refuses(t, o, del(k), api.ErrKey)
		refuses(t, list(o), path(del(k), nth(0)), api.ErrKey)
	}
	refuses(t, object(o.O[:1]...), del("d"), api.ErrKey) // what lies behind a list's length is not there
	for n := range 4 {
		l, s := list(elements().L[:n]...), txt("\u20acb\u00e9"[:[]int{0, 3, 4, 6}[n]])
		for _, c := range ops(ins(n+1, api.Val{}), rem(n), set(n, api.Val{}), move(0, n), move(n, 0), move(n, n), rem(math.MaxInt), ins(math.MaxInt, api.Val{})) {
			refuses(t, l, c, api.ErrPlace)
			refuses(t, list(l), path(c, nth(0)), api.ErrPlace)
		}
		for _, c := range ops(tins(n+1, "x"), tdel(n, 1), tdel(0, int64(n+1)), tdel(n+1, 1), tdel(0, math.MaxInt64), tdel(math.MaxInt, math.MaxInt64), tins(math.MaxInt, "x")) {
			refuses(t, s, c, api.ErrPlace)
			refuses(t, object(at("s", s)), path(c, key("s")), api.ErrPlace)
		}
	}
}

// nested is a value so deep.
func nested(deep int) api.Val {
	v := txt("in")
	for i := range deep {
		if i%2 == 0 {
			v = list(v)
		} else {
			v = object(at("k", v))
		}
	}
	return v
}

// gone are components by which what stands in a list, or in an object, does so no more; and those that bring it back.
func gone(x api.Val) []struct {
	v       api.Val
	c, back api.Comp
} {
	l, o := list(number(1), x), object(at("a", number(1)), at("k", x))
	return []struct {
		v       api.Val
		c, back api.Comp
	}{
		{o, put("k", number(2)), put("k", x)}, {o, del("k"), put("k", x)},
		{l, rem(1), ins(1, x)}, {l, set(1, number(2)), set(1, x)},
	}
}

func TestTooDeep(t *testing.T) {
	for n := range 16 {
		p := ways()[2]
		p = behind(p, p)
		p = behind(behind(behind(p, p), p), p)[:n] // through lists
		for _, r := range gone(nested(15 - n)) {
			got, e := inv.Turned(inside(r.v, p), path(r.c, p...))
			if e != api.OK || !alike(ops(got), ops(path(r.back, p...))) {
				t.Errorf("%d steps to what is %d deep: %d", n, 15-n, e)
			}
		}
		for _, r := range gone(nested(16 - n)) {
			refuses(t, inside(r.v, p), path(r.c, p...), api.ErrComp)
		}
	}
	// where it does not stand in what undoes it, it may be as deep as it likes
	x := nested(100)
	turns(t, list(x, number(1)), move(0, 1), move(1, 0))
	turns(t, list(x, number(1)), ins(0, api.Val{}), rem(0))
	turns(t, list(x, number(1)), set(1, api.Val{}), set(1, number(1)))
	turns(t, object(at("k", x)), put("m", api.Val{}), del("m"))
}

func TestTooHeavy(t *testing.T) {
	heavy := func(n int) []api.Val {
		return []api.Val{
			txt(strings.Repeat("x", n-1)), list(make([]api.Val, n-1)...), object(at(strings.Repeat("x", n-2), api.Val{})),
			list(txt(strings.Repeat("\u20ac", (n-4)/3)), txt(strings.Repeat("x", (n-4)%3+1))), object(at("xy", list(make([]api.Val, n-4)...))),
		}
	}
	for _, x := range heavy(20000) {
		for _, r := range gone(x) {
			if got, e := inv.Turned(r.v, r.c); e != api.OK || !comp.Same(got, r.back) {
				t.Errorf("Turned of %+v: %d", r.c, e)
			}
		}
	}
	for _, x := range heavy(20001) {
		for _, r := range gone(x) {
			for _, p := range ways() {
				refuses(t, inside(r.v, p), path(r.c, p...), api.ErrComp)
			}
		}
		l, o := list(x, number(1)), object(at("k", x))
		for _, r := range []struct {
			v       api.Val
			c, back api.Comp
		}{{l, move(0, 1), move(1, 0)}, {l, rem(1), ins(1, number(1))}, {l, ins(1, api.Val{}), rem(1)}, {o, put("m", api.Val{}), del("m")}} {
			if got, e := inv.Turned(r.v, r.c); e != api.OK || !comp.Same(got, r.back) {
				t.Errorf("Turned of %+v: %d", r.c, e)
			}
		}
	}
}

// What stood there is no value: it can't stand in a component.
func TestNotSound(t *testing.T) {
	for _, x := range []api.Val{
		{Kind: 6}, {Kind: 255}, {Kind: api.Bool, N: 2}, {N: 1}, {Kind: api.Int, S: "x"}, txt("\xff"), txt("a\xc3"), list(number(1), txt("\x80")),
		object(at("b", number(1)), at("a", number(1))), object(at("a", number(1)), at("a", number(1))), object(at("\xff", number(1))),
	} {
		for _, r := range gone(x) {
			refuses(t, r.v, r.c, api.ErrComp)
			refuses(t, list(r.v), path(r.c, nth(0)), api.ErrComp)
		}
	}
	for _, c := range ops(tdel(0, 1), tdel(0, 3), tdel(1, 2), tdel(2, 1), tdel(3, 1)) {
		refuses(t, txt("\xffa\xe2\x82\u20ac"), c, api.ErrComp)
	}
	// keys are looked for as val.Field does: the first that is not below it
	v := object(at("b", number(1)), at("a", number(2)), at("b", number(3)))
	for _, r := range []struct{ c, want api.Comp }{
		{put("b", txt("x")), put("b", number(1))}, {del("b"), put("b", number(1))}, {put("a", txt("x")), del("a")}, {put("c", txt("x")), del("c")},
	} {
		if got, e := inv.Turned(v, r.c); e != api.OK || !alike(ops(got), ops(r.want)) {
			t.Errorf("Turned of %+v: %+v, %d", r.c, got, e)
		}
	}
	refuses(t, v, del("a"), api.ErrKey)
}

// Of several errors comp.Check's is the one.
func TestCheckComesFirst(t *testing.T) {
	x := nested(16)
	v := object(at("l", list(x)), at("o", object(at("k", x))), at("t", txt("\xff")))
	for _, r := range []struct {
		c    api.Comp
		want api.Errno
	}{
		{path(rem(0), key("l")), api.ErrComp}, {path(rem(1), key("l")), api.ErrPlace}, {path(rem(0), key("o")), api.ErrKind}, {path(rem(0), key("x")), api.ErrPath},
		{path(del("k"), key("o")), api.ErrComp}, {path(del("x"), key("o")), api.ErrKey}, {path(del("k"), key("l")), api.ErrKind},
		{path(tdel(0, 1), key("t")), api.ErrComp}, {path(tdel(0, 2), key("t")), api.ErrPlace}, {path(tdel(0, 1), key("o")), api.ErrKind},
		{path(put("k", api.Val{}), key("o")), api.ErrComp}, {path(put("k", api.Val{}), key("t")), api.ErrKind},
		{path(set(0, api.Val{}), key("l")), api.ErrComp}, {path(set(1, api.Val{}), key("l")), api.ErrPlace},
	} {
		refuses(t, v, r.c, r.want)
		if e := op.Check(v, ops(r.c)); e != api.OK && e != r.want {
			t.Errorf("the test itself is wrong: %+v, %d", r.c, e)
		}
	}
}
