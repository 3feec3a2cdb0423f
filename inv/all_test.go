package inv_test

import (
	"testing"

	"conciliator/api"
	"conciliator/inv"
	"conciliator/op"
)

// undoes says that All answers this of an operation, or tells this error and nothing else.
func undoes(t *testing.T, v api.Val, l, want []api.Comp, f api.Errno) {
	t.Helper()
	got, e := inv.All(v, l)
	if e != f || !alike(got, want) {
		t.Errorf("All(%+v, %+v): %+v, %d, not %+v, %d", v, l, got, e, want, f)
	}
}

func TestAllOfNone(t *testing.T) {
	for _, v := range []api.Val{{}, number(1), rich(), list(nested(20)), {Kind: 77}, txt("\xff")} {
		undoes(t, v, nil, nil, api.OK)
		undoes(t, v, ops(), nil, api.OK)
		undoes(t, v, ops(add(1))[:0], nil, api.OK)
	}
}

func TestAllOfOne(t *testing.T) {
	for _, c := range ordinary() {
		v := fitting(c.Kind)
		one, e := inv.Turned(v, c)
		if e != api.OK {
			t.Fatalf("Turned of %+v tells %d", c, e)
		}
		undoes(t, v, ops(c), ops(one), api.OK)
	}
}

// The last one's undoing stands first, and each undoes what the one did to what those ahead of it made.
func TestAllOfMany(t *testing.T) {
	v := object(at("l", list(number(1), number(2), number(3))), at("n", number(7)), at("t", txt("a\u20acb")))
	rows := []struct{ l, want []api.Comp }{
		{ops(put("n", number(8)), del("n")), ops(put("n", number(8)), put("n", number(7)))},
		{ops(del("n"), put("n", number(8))), ops(del("n"), put("n", number(7)))},
		{ops(put("m", number(8)), put("m", number(9)), del("m")), ops(put("m", number(9)), put("m", number(8)), del("m"))},
		{ops(path(add(3), key("n")), path(add(-4), key("n")), path(add(0), key("n"))), ops(path(add(0), key("n")), path(add(4), key("n")), path(add(-3), key("n")))},
		{ops(path(rem(0), key("l")), path(rem(0), key("l")), path(rem(0), key("l"))), ops(path(ins(0, number(3)), key("l")), path(ins(0, number(2)), key("l")), path(ins(0, number(1)), key("l")))},
		{ops(path(ins(1, txt("x")), key("l")), path(move(1, 3), key("l")), path(set(3, txt("y")), key("l"))), ops(path(set(3, txt("x")), key("l")), path(move(3, 1), key("l")), path(rem(1), key("l")))},
		{ops(path(set(2, txt("p")), key("l")), path(move(0, 2), key("l")), path(rem(1), key("l"))), ops(path(ins(1, txt("p")), key("l")), path(move(2, 0), key("l")), path(set(2, number(3)), key("l")))},
		{ops(path(tins(1, "xy"), key("t")), path(tdel(0, 4), key("t")), path(tins(1, "\u00e9"), key("t"))), ops(path(tdel(1, 1), key("t")), path(tins(0, "axy\u20ac"), key("t")), path(tdel(1, 2), key("t")))},
		{ops(put("n", list()), path(ins(0, number(1)), key("n")), path(add(2), key("n"), nth(0))), ops(path(add(-2), key("n"), nth(0)), path(rem(0), key("n")), put("n", number(7)))},
		{ops(path(ins(3, object()), key("l")), path(put("k", txt("")), key("l"), nth(3)), path(tins(0, "x"), key("l"), nth(3), key("k")), path(move(3, 0), key("l"))),
			ops(path(move(0, 3), key("l")), path(tdel(0, 1), key("l"), nth(3), key("k")), path(del("k"), key("l"), nth(3)), path(rem(3), key("l")))},
		{ops(path(add(1), key("l"), nth(1)), del("l")), ops(put("l", list(number(1), number(3), number(3))), path(add(-1), key("l"), nth(1)))},
	}
	for _, r := range rows {
		undoes(t, v, r.l, r.want, api.OK)
		if back := do(t, do(t, v, r.l), r.want); !alikeValues(back, v) {
			t.Errorf("%+v is not undone by %+v", r.l, r.want)
		}
	}
}

// many are so many components that may be done to an empty text, one behind the other, and what undoes them.
func many(n int) (l, back []api.Comp) {
	for i := range n {
		l = append(l, tins(i, "x"))
		back = append(back, tdel(n-1-i, 1))
	}
	return l, back
}

func TestAllTakesSoManyComponents(t *testing.T) {
	for _, n := range []int{2, 3, 10, 199, 200} {
		l, back := many(n)
		undoes(t, txt(""), l, back, api.OK)
	}
	for _, n := range []int{201, 202, 256, 400, 1000} {
		l, _ := many(n)
		undoes(t, txt(""), l, nil, api.ErrLimit)
		// that is told ahead of all others
		for _, i := range []int{0, 100, 199, 200} {
			for _, c := range ops(api.Comp{}, rem(0), tdel(0, 0), path(add(1), key("none"))) {
				was := l[i]
				l[i] = c
				undoes(t, txt(""), l, nil, api.ErrLimit)
				l[i] = was
			}
		}
	}
	l, back := many(200)
	undoes(t, txt(""), append(l, rem(0))[:200], back, api.OK) // what lies behind the list's length is not looked at
}

// One that can't be done is told wherever it stands, and then nothing else.
func TestAllTellsTheFirstError(t *testing.T) {
	v := list(txt("\u20ac"), object(at("k", nested(20)), at("n", number(1))), number(5))
	fine := ops(ins(0, txt("x")), path(put("n", txt("y")), nth(2)), path(add(2), nth(3)), rem(0), path(tins(1, "z"), nth(0)))
	if op.Check(v, fine) != api.OK {
		t.Fatal("the test itself is wrong")
	}
	faults := []struct {
		c api.Comp
		e api.Errno
	}{
		{api.Comp{}, api.ErrComp}, {tdel(0, 0), api.ErrComp}, {path(add(1), nth(-1)), api.ErrComp}, {ins(0, nested(16)), api.ErrComp},
		{path(add(1), nth(9)), api.ErrPath}, {path(add(1), key("k")), api.ErrPath},
		{add(1), api.ErrKind}, {tins(0, "x"), api.ErrKind}, {put("k", api.Val{}), api.ErrKind},
		{rem(9), api.ErrPlace}, {move(0, 9), api.ErrPlace}, {set(9, api.Val{}), api.ErrPlace},
	}
	for i := range len(fine) + 1 {
		for _, f := range faults {
			undoes(t, v, behind(behind(fine[:i], ops(f.c)), fine[i:]), nil, f.e)
			for _, g := range faults {
				undoes(t, v, behind(behind(fine[:i], ops(f.c)), behind(fine[i:], ops(g.c))), nil, f.e)
				undoes(t, v, behind(behind(fine[:i], ops(f.c, g.c)), fine[i:]), nil, f.e)
			}
		}
	}
	// what is too deep to be brought back is no worse than the others, and no better
	undoes(t, v, ops(path(del("k"), nth(1)), rem(9)), nil, api.ErrComp)
	undoes(t, v, ops(rem(9), path(del("k"), nth(1))), nil, api.ErrPlace)
	undoes(t, v, ops(rem(1)), nil, api.ErrComp)
	undoes(t, v, ops(ins(0, api.Val{}), rem(2), add(1)), nil, api.ErrComp)
	undoes(t, v, ops(path(del("none"), nth(1)), rem(1)), nil, api.ErrKey)
	undoes(t, v, behind(fine, ops(rem(1))), nil, api.ErrComp)
	undoes(t, v, behind(fine, ops(rem(2), add(1))), ops(), api.ErrKind)
}

// What may be done only since another one ahead of it was done, and what may be no more.
func TestAllLooksAtWhatThoseAheadMade(t *testing.T) {
	rows := []struct {
		v           api.Val
		first, then api.Comp
		alone       api.Errno
	}{
		{object(), put("k", number(1)), del("k"), api.ErrKey},
		{object(), put("k", number(1)), path(add(1), key("k")), api.ErrPath},
		{object(at("k", txt("x"))), put("k", number(1)), path(add(1), key("k")), api.ErrKind},
		{list(), ins(0, number(1)), rem(0), api.ErrPlace},
		{list(), ins(0, number(1)), ins(1, number(2)), api.ErrPlace},
		{list(number(1)), ins(1, number(2)), move(1, 0), api.ErrPlace},
		{list(number(1)), set(0, list()), path(ins(0, number(2)), nth(0)), api.ErrKind},
		{list(txt("x"), number(1)), move(0, 1), path(add(1), nth(0)), api.ErrKind},
		{list(txt("x"), number(1)), rem(0), path(add(1), nth(0)), api.ErrKind},
		{txt(""), tins(0, "\u20acx"), tdel(1, 1), api.ErrPlace},
		{txt(""), tins(0, "\u20acx"), tins(2, "y"), api.ErrPlace},
	}
	for _, r := range rows {
		undoes(t, r.v, ops(r.then), nil, r.alone)
		undoes(t, r.v, ops(r.then, r.first), nil, r.alone)
		one, e := inv.Turned(r.v, r.first)
		two, f := inv.Turned(do(t, r.v, ops(r.first)), r.then)
		if e != api.OK || f != api.OK {
			t.Fatalf("%+v, %+v: %d, %d", r.first, r.then, e, f)
		}
		undoes(t, r.v, ops(r.first, r.then), ops(two, one), api.OK)
	}
	undoes(t, list(number(1)), ops(rem(0), rem(0)), nil, api.ErrPlace)
	undoes(t, object(at("k", number(1))), ops(del("k"), del("k")), nil, api.ErrKey)
	undoes(t, object(at("k", number(1))), ops(del("k"), path(add(1), key("k"))), nil, api.ErrPath)
	undoes(t, txt("a"), ops(tdel(0, 1), tdel(0, 1)), nil, api.ErrPlace)
	// what those ahead made may be too heavy to be brought back, though each that they laid there is not
	v, x := list(list()), list(make([]api.Val, 9999)...)
	l := ops(path(ins(0, x), nth(0)), path(ins(0, x), nth(0)))
	undoes(t, v, behind(l[:1], ops(rem(0))), ops(ins(0, list(x)), path(rem(0), nth(0))), api.OK)
	undoes(t, v, behind(l, ops(rem(0))), nil, api.ErrComp)
	undoes(t, v, behind(l, ops(path(rem(0), nth(0)), rem(0))), ops(ins(0, list(x)), path(ins(0, x), nth(0)), path(rem(0), nth(0)), path(rem(0), nth(0))), api.OK)
}
