package op_test

import (
	"strings"
	"testing"

	"conciliator/api"
	"conciliator/comp"
	"conciliator/json"
	"conciliator/op"
)

// whole is what most of these are done to.
const whole = `{"l":[1,"ab",[2]],"n":7,"o":{"k":null},"t":"hé"}`

// tells says that Check and Do tell the same, and that nothing stands beside an error.
func tells(t *testing.T, v api.Val, l []api.Comp, want api.Errno) {
	t.Helper()
	w, e := op.Do(v, l)
	if e != want {
		t.Errorf("Do of %d components %+v tells %d, not %d", len(l), l[:min(len(l), 5)], e, want)
	}
	if e != api.OK && !alikeValues(w, api.Val{}) {
		t.Errorf("Do of %+v is %+v beside an error", l, w)
	}
	if e := op.Check(v, l); e != want {
		t.Errorf("Check of %d components %+v is %d, not %d", len(l), l[:min(len(l), 5)], e, want)
	}
}

// makes says what Do makes of a value; so says Do of each alone, one behind the other.
func makes(t *testing.T, from string, l []api.Comp, want string) {
	t.Helper()
	v := value(t, from)
	tells(t, v, l, api.OK)
	if s, _ := json.Encode(do(t, v, l)); s != want {
		t.Errorf("Do(%s, %+v) is %s, not %s", from, l, s, want)
	}
	for _, c := range l {
		v = do(t, v, ops(c))
	}
	if s, _ := json.Encode(v); s != want {
		t.Errorf("%+v, one by one, of %s: %s, not %s", l, from, s, want)
	}
}

func TestDo(t *testing.T) {
	n, l, o, txtWay := key("n"), key("l"), key("o"), key("t")
	makes(t, whole, nil, `{"l":[1,"ab",[2]],"n":7,"o":{"k":null},"t":"hé"}`)
	makes(t, whole, ops(), `{"l":[1,"ab",[2]],"n":7,"o":{"k":null},"t":"hé"}`)
	makes(t, `1`, nil, `1`)
	makes(t, `1`, ops(add(2)), `3`)
	makes(t, `1`, ops(add(2), add(-7), add(0)), `-4`)
	makes(t, `{}`, ops(put("a", number(1)), put("b", txt("x")), del("a")), `{"b":"x"}`)
	makes(t, `[]`, ops(ins(0, txt("a")), ins(0, txt("b")), ins(1, txt("c"))), `["b","c","a"]`)
	makes(t, `[1,2,3]`, ops(move(0, 2), rem(0), set(1, txt("x"))), `[3,"x"]`)
	makes(t, `"abc"`, ops(tdel(0, 2), tins(1, "\u20acd"), tdel(1, 1)), `"cd"`)
	makes(t, whole, ops(path(add(1), n), path(rem(0), l), path(tins(2, "z"), l, nth(0)), path(del("k"), o), path(tdel(1, 1), txtWay)),
		`{"l":["abz",[2]],"n":8,"o":{},"t":"h"}`)
}

// Each is done to what those ahead made: some may be done only since then, some no longer.
func TestStepByStep(t *testing.T) {
	n := key("n")
	x := txt("x")
	only := []struct {
		v    string
		l    []api.Comp
		want string
		then api.Errno // of the last one alone
	}{
		{`{}`, ops(put("n", number(1)), path(add(1), n)), `{"n":2}`, api.ErrPath},
		{`{"n":"x"}`, ops(put("n", number(1)), path(add(1), n)), `{"n":2}`, api.ErrKind},
		{`{}`, ops(put("n", number(1)), del("n")), `{}`, api.ErrKey},
		{`[]`, ops(ins(0, x), rem(0)), `[]`, api.ErrPlace},
		{`[]`, ops(ins(0, number(5)), path(add(1), nth(0))), `[6]`, api.ErrPath},
		{`[1]`, ops(ins(0, x), ins(2, x)), `["x",1,"x"]`, api.ErrPlace},
		{`""`, ops(tins(0, "ab"), tdel(1, 1)), `"a"`, api.ErrPlace},
		{`[1,"x"]`, ops(move(0, 1), path(add(1), nth(1))), `["x",2]`, api.ErrKind},
	}
	for _, r := range only {
		makes(t, r.v, r.l, r.want)
		tells(t, value(t, r.v), r.l[len(r.l)-1:], r.then)
	}
	no := []struct {
		v    string
		l    []api.Comp
		then api.Errno // of the last one, though it may be done alone
	}{
		{`{"n":1}`, ops(del("n"), path(add(1), n)), api.ErrPath},
		{`{"n":1}`, ops(put("n", x), path(add(1), n)), api.ErrKind},
		{`{"n":1}`, ops(del("n"), del("n")), api.ErrKey},
		{`[1]`, ops(rem(0), rem(0)), api.ErrPlace},
		{`[1]`, ops(rem(0), path(add(1), nth(0))), api.ErrPath},
		{`[1]`, ops(set(0, x), path(add(1), nth(0))), api.ErrKind},
		{`"ab"`, ops(tdel(0, 1), tdel(1, 1)), api.ErrPlace},
	}
	for _, r := range no {
		v := value(t, r.v)
		tells(t, v, r.l, r.then)
		tells(t, v, r.l[:1], api.OK)
		tells(t, v, r.l[1:], api.OK)
	}
}

// refused are components for each error that one may have.
func refused() map[api.Errno][]api.Comp {
	return map[api.Errno][]api.Comp{
		api.ErrComp:  ops(api.Comp{}, kind(10, add(1)), api.Comp{Kind: api.Rem, S: "x"}, path(tins(0, ""), key("t")), put("\xff", number(1))),
		api.ErrPath:  ops(path(add(1), key("z")), path(rem(0), nth(0)), path(add(1), key("l"), nth(3))),
		api.ErrKind:  ops(add(1), rem(0), path(put("k", number(1)), key("l")), path(tins(0, "x"), key("n"))),
		api.ErrKey:   ops(del("z"), path(del("m"), key("o"))),
		api.ErrPlace: ops(path(rem(3), key("l")), path(ins(4, number(1)), key("l")), path(move(0, 3), key("l")), path(tdel(1, 2), key("t")), path(tins(3, "x"), key("t"))),
	}
}

// fine are so many that may be done.
func fine(n int) []api.Comp {
	var l []api.Comp
	for i := range n {
		l = append(l, ops(path(add(1), key("n")), put("m", number(2)), path(move(0, 0), key("l")))[i%3])
	}
	return l
}

// The error of the first that can't be done, wherever it stands.
func TestFirstError(t *testing.T) {
	v := value(t, whole)
	for e, bad := range refused() {
		for _, c := range bad {
			if f := comp.Check(v, c); f != e {
				t.Fatalf("%+v tells %d alone, not %d", c, f, e)
			}
			for _, ahead := range []int{0, 1, 2, 50, 199} {
				l := append(fine(ahead), c)
				tells(t, v, l, e)
				tells(t, v, append(l, fine(min(7, 199-ahead))...), e)
				for _, others := range refused() {
					if ahead < 199 {
						tells(t, v, append(l, others[0]), e)
					}
				}
			}
		}
	}
}

// How many there are is asked first.
func TestLimit(t *testing.T) {
	v := value(t, whole)
	tells(t, v, fine(200), api.OK)
	tells(t, v, fine(201), api.ErrLimit)
	tells(t, v, fine(5000), api.ErrLimit)
	tells(t, v, make([]api.Comp, 200), api.ErrComp)
	tells(t, v, make([]api.Comp, 201), api.ErrLimit)
	for e, bad := range refused() {
		tells(t, v, append(bad[:1:1], fine(199)...), e)
		tells(t, v, append(bad[:1:1], fine(200)...), api.ErrLimit)
		tells(t, v, append(fine(199), bad[0]), e)
		tells(t, v, append(fine(200), bad[0]), api.ErrLimit)
	}
	idle := make([]api.Comp, 200)
	for i := range idle {
		idle[i] = add(0)
	}
	tells(t, number(1), idle, api.OK) // what does nothing counts, too
	tells(t, number(1), append(idle, add(0)), api.ErrLimit)
	if got := do(t, number(1), append(idle[:199:199], add(41))); got.N != 42 {
		t.Errorf("the last one of 200 is not done: %+v", got)
	}
}

// A value need not be sound, nor has Do a bound on what it makes.
func TestAnyValue(t *testing.T) {
	for _, c := range ladenOnes() {
		tells(t, c.V, nil, api.OK)
		if w := do(t, c.V, nil); !alikeValues(w, c.V) {
			t.Errorf("Do of nothing: %+v, not %+v", w, c.V)
		}
	}
	long := tins(0, strings.Repeat("a", 19999))
	if w := do(t, txt(""), ops(long, long, long)); len(w.S) != 3*19999 {
		t.Errorf("%d bytes", len(w.S))
	}
}
