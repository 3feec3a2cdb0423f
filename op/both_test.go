package op_test

import (
	"math/rand"
	"testing"

	"conciliator/api"
	"conciliator/json"
	"conciliator/op"
)

// bothWays holds two ways against each other: a, and b behind it, and b, and a behind it.
func bothWays(t *testing.T, v api.Val, a, b []api.Comp) api.Val {
	t.Helper()
	c, d := op.Cross(a, b)
	one, two := do(t, do(t, v, a), d), do(t, do(t, v, b), c)
	if !alikeValues(one, two) {
		t.Fatalf("%+v, %+v and %+v: %+v and %+v", v, a, b, one, two)
	}
	return one
}

// cutAnywhere says that an operation is crossed part by part to the same.
func cutAnywhere(t *testing.T, a, b []api.Comp) {
	t.Helper()
	c, d := op.Cross(a, b)
	for i := range len(a) + 1 {
		one, rest := op.Cross(a[:i], b)
		two, rest := op.Cross(a[i:], rest)
		if !alike(behind(one, two), c) || !alike(rest, d) {
			t.Fatalf("%+v and %+v, the first one cut at %d: %+v, %+v and %+v", a, b, i, one, two, rest)
		}
	}
	for i := range len(b) + 1 {
		rest, one := op.Cross(a, b[:i])
		rest, two := op.Cross(rest, b[i:])
		if !alike(behind(one, two), d) || !alike(rest, c) {
			t.Fatalf("%+v and %+v, the second one cut at %d: %+v, %+v and %+v", a, b, i, one, two, rest)
		}
	}
}

// trimmed says that what is trimmed does the same, and is trimmed.
func trimmed(t *testing.T, v api.Val, l []api.Comp) {
	t.Helper()
	short := op.Trim(l)
	if !alikeValues(do(t, v, short), do(t, v, l)) {
		t.Fatalf("%+v, %+v: %+v does something else", v, l, short)
	}
	if again := op.Trim(short); !alike(again, short) {
		t.Fatalf("%+v, trimmed %+v, trimmed again %+v", l, short, again)
	}
}

// joined says that two are one, and do the same.
func joined(t *testing.T, v api.Val, a, b []api.Comp) {
	t.Helper()
	one := op.Join(a, b)
	if !alike(one, op.Trim(behind(a, b))) {
		t.Fatalf("Join(%+v, %+v): %+v", a, b, one)
	}
	if !alikeValues(do(t, v, one), do(t, do(t, v, a), b)) {
		t.Fatalf("%+v, %+v and %+v: %+v does something else", v, a, b, one)
	}
}

// here are components of all kinds at a value itself.
func here(v api.Val) []api.Comp {
	all := ops(add(1), add(-1), add(0), put("a", txt("x")), put("b", txt("y")), del("a"), del("b"))
	for i := range max(len(v.L), len(v.S)) + 1 {
		all = append(all, ins(i, txt("x")), rem(i), set(i, txt("y")), tins(i, "\u20acy"))
		for j := range max(len(v.L), len(v.S)) + 1 {
			all = append(all, move(i, j), tdel(i, int64(j)))
		}
	}
	return all
}

// possible are all operations of so many components at most that may be done to a value; they work on it, and on what is in it.
func possible(v api.Val, most int) [][]api.Comp {
	all := [][]api.Comp{nil}
	if most == 0 {
		return all
	}
	for _, p := range paths(v) {
		for _, c := range below(here(there(v, p)), p...) {
			w, e := op.Do(v, ops(c))
			if e != api.OK {
				continue
			}
			for _, rest := range possible(w, most-1) {
				all = append(all, behind(ops(c), rest))
			}
		}
	}
	return all
}

// All that may be done to some small values.
func TestBothWays(t *testing.T) {
	for _, s := range []string{`1`, `"ab"`, `"abc"`, `[]`, `[1]`, `[1,2]`, `{}`, `{"a":1}`, `[[]]`} {
		v := value(t, s)
		all := possible(v, 2)
		for i, a := range all {
			trimmed(t, v, a)
			for j, b := range all {
				if len(all) < 150 || (i+j)%7 == 0 {
					bothWays(t, v, a, b)
				}
			}
		}
	}
}

// Many values, and pairs of operations.
func TestBothWaysByChance(t *testing.T) {
	r := rand.New(rand.NewSource(9))
	cut, less := 0, 0
	for range 5000 {
		v := chance(r, 4)
		a, b := chanceOp(r, v, 6), chanceOp(r, v, 6)
		c, d := op.Cross(a, b)
		cut += max(0, len(c)-len(a), len(d)-len(b))
		less += max(0, len(a)-len(c), len(b)-len(d))
		w := bothWays(t, v, a, b)
		cutAnywhere(t, a, b)
		trimmed(t, v, a)
		joined(t, v, a, d)
		joined(t, v, b, c)
		if !alikeValues(do(t, v, op.Join(a, d)), w) {
			t.Fatalf("%+v, %+v and %+v joined", v, a, d)
		}
	}
	if cut < 50 || less < 500 {
		t.Errorf("%d more, %d less", cut, less)
	}
}

// Operations of many components, at one text and at one list.
func TestBothWaysOfMany(t *testing.T) {
	r := rand.New(rand.NewSource(10))
	for range 100 {
		for _, v := range []api.Val{txt("abcdefghijkl"), list(txt("a"), number(2), list(), txt("b"))} {
			some := func() []api.Comp {
				var l []api.Comp
				for w := v; len(l) < 12; {
					c := chanceComp(r, w)
					if x, e := op.Do(w, ops(c)); e == api.OK {
						l, w = append(l, c), x
					}
				}
				return l
			}
			a, b := some(), some()
			bothWays(t, v, a, b)
			cutAnywhere(t, a, b)
			trimmed(t, v, a)
			joined(t, v, a, b[:0])
		}
	}
}

// Part by part to the same, whatever the parts are.
func TestCutAnything(t *testing.T) {
	r := rand.New(rand.NewSource(11))
	for range 3000 {
		cutAnywhere(t, wild(r, 6), wild(r, 6))
	}
}

// 200 with 200.
func TestBothWaysOfMost(t *testing.T) {
	var a, b []api.Comp
	for i := range 200 {
		a = append(a, ops(tins(i/2, "ab"), tdel(i/2, 1))[i%2])
		b = append(b, ops(tins(0, "xyz"), tdel(1, 2))[i%2])
	}
	if len(bothWays(t, txt("abcdef"), a, b).S) != 206 {
		t.Error("200 with 200, of a text")
	}
	for i := range 200 {
		a[i], b[i] = ins(i, number(1)), ins(0, number(2))
	}
	if len(bothWays(t, list(), a, b).L) != 400 {
		t.Error("200 with 200, of a list")
	}
}

// Where both can't have their way, the left one has it.
func TestBothWaysAsMeant(t *testing.T) {
	x, y := txt("x"), txt("y")
	l := func(c api.Comp) api.Comp { return path(c, key("l")) }
	in := func(c api.Comp) api.Comp { return path(c, key("l"), nth(1)) }
	rows := []struct {
		a, b  []api.Comp
		ab, s string // s is the other way round, and empty, if it is the same
	}{
		{ops(put("n", x)), ops(put("n", y)), `{"l":[1,"ab"],"n":"x"}`, `{"l":[1,"ab"],"n":"y"}`},
		{ops(del("n"), put("n", x)), ops(put("n", y)), `{"l":[1,"ab"],"n":"x"}`, `{"l":[1,"ab"],"n":"y"}`},
		{ops(put("n", x)), ops(del("n")), `{"l":[1,"ab"],"n":"x"}`, ``},
		{ops(path(add(1), key("n")), put("n", x)), ops(path(add(2), key("n"))), `{"l":[1,"ab"],"n":"x"}`, ``},
		{ops(l(ins(0, x)), l(ins(0, x))), ops(l(ins(0, y))), `{"l":["x","x","y",1,"ab"],"n":7}`, `{"l":["y","x","x",1,"ab"],"n":7}`},
		{ops(l(ins(1, x)), l(rem(0))), ops(l(ins(1, y))), `{"l":["x","y","ab"],"n":7}`, `{"l":["y","x","ab"],"n":7}`},
		{ops(l(move(0, 1))), ops(l(move(0, 0)), l(set(0, y))), `{"l":["ab","y"],"n":7}`, `{"l":["y","ab"],"n":7}`},
		{ops(l(move(1, 0)), path(tins(1, "z"), key("l"), nth(0))), ops(in(tdel(0, 2))), `{"l":["z",1],"n":7}`, ``},
		{ops(in(tins(1, "x")), in(tins(2, "x"))), ops(in(tins(1, "yy"))), `{"l":[1,"axxyyb"],"n":7}`, `{"l":[1,"ayyxxb"],"n":7}`},
		{ops(del("l")), ops(l(set(0, x)), in(tins(0, "z"))), `{"n":7}`, ``},
	}
	for _, r := range rows {
		if r.s == "" {
			r.s = r.ab
		}
		v := value(t, `{"l":[1,"ab"],"n":7}`)
		if s, _ := json.Encode(bothWays(t, v, r.a, r.b)); s != r.ab {
			t.Errorf("%+v and %+v: %s", r.a, r.b, s)
		}
		if s, _ := json.Encode(bothWays(t, v, r.b, r.a)); s != r.s {
			t.Errorf("%+v and %+v: %s", r.b, r.a, s)
		}
	}
}
