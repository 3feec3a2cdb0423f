package op_test

import (
	"testing"

	"conciliator/api"
	"conciliator/json"
	"conciliator/op"
	"conciliator/turn"
)

// crossed are two operations, and each as it is behind the other one.
type crossed struct{ a, b, c, d []api.Comp }

// holds says that Cross answers what it is to answer, also where both stand further down in a value.
func (r crossed) holds(t *testing.T) {
	t.Helper()
	for _, p := range [][]api.Step{nil, way(nth(0)), way(key("k"), nth(4)), way(key(""), key("k"), nth(1), nth(1))} {
		a, b := below(r.a, p...), below(r.b, p...)
		c, d := op.Cross(a, b)
		if !alike(c, below(r.c, p...)) {
			t.Errorf("%+v behind %+v, left: %+v, not %+v", a, b, c, r.c)
		}
		if !alike(d, below(r.d, p...)) {
			t.Errorf("%+v behind %+v, not left: %+v, not %+v", b, a, d, r.d)
		}
	}
}

// The chapter's example.
func TestCrossExample(t *testing.T) {
	crossed{ops(add(1)), ops(add(2)), ops(add(1)), ops(add(2))}.holds(t)
}

func TestCrossNothing(t *testing.T) {
	crossed{}.holds(t)
	for n := range 10 {
		l := ordinary()[:n]
		crossed{l, nil, l, nil}.holds(t)
		crossed{nil, l, nil, l}.holds(t)
		crossed{l, ops(), l, ops()}.holds(t)
	}
	for _, c := range ladenOnes() {
		crossed{ops(c, c), nil, ops(c, c), nil}.holds(t)
		crossed{nil, ops(c, c), nil, ops(c, c)}.holds(t)
	}
}

// One with one is what Turn says: a is left, b is not.
func TestCrossOneWithOne(t *testing.T) {
	all := behind(ordinary(), ladenOnes())
	all = append(all, path(add(1), nth(1)), path(add(1), key("k")), tins(2, "z"), tdel(0, 9), move(1, 1), move(1, 0), rem(0), put("k", number(2)))
	for _, a := range all {
		for _, b := range all {
			crossed{ops(a), ops(b), turn.Turn(a, b, true), turn.Turn(b, a, false)}.holds(t)
		}
	}
}

// Where both can't have their way the left one has it.
func TestCrossLeft(t *testing.T) {
	x, y := txt("x"), txt("y")
	crossed{ops(put("k", x)), ops(put("k", y)), ops(put("k", x)), nil}.holds(t)
	crossed{ops(put("k", x)), ops(del("k")), ops(put("k", x)), nil}.holds(t)
	crossed{ops(del("k")), ops(put("k", y)), nil, ops(put("k", y))}.holds(t)
	crossed{ops(ins(1, x)), ops(ins(1, y)), ops(ins(1, x)), ops(ins(2, y))}.holds(t)
	crossed{ops(set(1, x)), ops(set(1, y)), ops(set(1, x)), nil}.holds(t)
	crossed{ops(tins(1, "xyz")), ops(tins(1, "v")), ops(tins(1, "xyz")), ops(tins(4, "v"))}.holds(t)
	crossed{ops(move(1, 2)), ops(move(1, 0)), ops(move(0, 2)), nil}.holds(t)
	crossed{ops(move(0, 1)), ops(move(2, 2)), ops(move(0, 1)), ops(move(2, 2))}.holds(t)
	crossed{ops(move(2, 2)), ops(move(0, 1)), ops(move(2, 1)), ops(move(0, 2))}.holds(t)

	crossed{ops(put("k", x), put("m", x)), ops(put("m", y), put("k", y)), ops(put("k", x), put("m", x)), nil}.holds(t)
	crossed{ops(ins(0, x), ins(1, x)), ops(ins(0, y)), ops(ins(0, x), ins(1, x)), ops(ins(2, y))}.holds(t)
	crossed{ops(ins(0, x)), ops(ins(0, y), ins(1, y)), ops(ins(0, x)), ops(ins(1, y), ins(2, y))}.holds(t)
	crossed{ops(tins(0, "ab"), tins(2, "c")), ops(tins(0, "x")), ops(tins(0, "ab"), tins(2, "c")), ops(tins(3, "x"))}.holds(t)
	crossed{ops(tins(0, "ab")), ops(tins(0, "x"), tins(1, "yz")), ops(tins(0, "ab")), ops(tins(2, "x"), tins(3, "yz"))}.holds(t)
	crossed{ops(move(1, 2), rem(0)), ops(move(1, 0)), ops(move(0, 2), rem(0)), nil}.holds(t)
}

// One with many and many with one: each is behind all that are ahead of it.
func TestCrossMany(t *testing.T) {
	x, y := txt("x"), txt("y")
	in := func(c api.Comp, i int) api.Comp { return path(c, nth(i)) }
	rows := []crossed{
		{ops(ins(0, x)), ops(rem(0), rem(1), add(1)), ops(ins(0, x)), ops(rem(1), rem(2), add(1))},
		{ops(rem(3)), ops(rem(0), ins(2, y)), ops(rem(3)), ops(rem(0), ins(2, y))},
		{ops(rem(3)), ops(rem(0), rem(0), rem(0)), ops(rem(0)), ops(rem(0), rem(0), rem(0))},
		{ops(in(add(1), 2)), ops(move(2, 0), ins(0, y)), ops(in(add(1), 1)), ops(move(2, 0), ins(0, y))},
		{ops(in(add(1), 2)), ops(move(2, 0), rem(0), ins(0, y)), nil, ops(move(2, 0), rem(0), ins(0, y))},
		{ops(in(add(1), 0), rem(0), in(add(2), 0)), ops(ins(1, y)), ops(in(add(1), 0), rem(0), in(add(2), 1)), ops(ins(0, y))},
		{ops(ins(0, x), ins(0, x), ins(0, x)), ops(set(4, y)), ops(ins(0, x), ins(0, x), ins(0, x)), ops(set(7, y))},
		{ops(del("k"), put("k", x)), ops(put("k", y)), ops(put("k", x)), nil},
		{ops(put("k", x)), ops(del("k"), put("k", y)), ops(put("k", x)), nil},
		{ops(del("k")), ops(del("k"), put("k", y)), nil, ops(put("k", y))},
		{ops(del("k"), del("m")), ops(del("m"), del("k")), nil, nil},
		{ops(rem(0), rem(0)), ops(rem(1), rem(0)), nil, nil},
		{ops(rem(0), ins(0, x)), ops(set(0, y), set(1, y)), ops(rem(0), ins(0, x)), ops(set(1, y))},
		{ops(move(0, 2), move(2, 1)), ops(move(0, 1), rem(1)), nil, ops(rem(1))},
		{ops(add(1), add(2)), ops(add(3), add(4)), ops(add(1), add(2)), ops(add(3), add(4))},
	}
	for _, r := range rows {
		r.holds(t)
	}
}

// A Tdel within which something is put in is two.
func TestCrossCutsInTwo(t *testing.T) {
	rows := []crossed{
		{ops(tdel(1, 3)), ops(tins(2, "xy")), ops(tdel(1, 1), tdel(3, 2)), ops(tins(1, "xy"))},
		{ops(tins(2, "xy")), ops(tdel(1, 3)), ops(tins(1, "xy")), ops(tdel(1, 1), tdel(3, 2))},
		{ops(tdel(1, 3)), ops(tins(2, "x"), tins(4, "y")), ops(tdel(1, 1), tdel(2, 1), tdel(3, 1)), ops(tins(1, "x"), tins(2, "y"))},
		{ops(tins(2, "x"), tins(4, "y")), ops(tdel(1, 3)), ops(tins(1, "x"), tins(2, "y")), ops(tdel(1, 1), tdel(2, 1), tdel(3, 1))},
		{ops(tdel(1, 3), tins(1, "z")), ops(tins(2, "xy")), ops(tdel(1, 1), tdel(3, 2), tins(1, "z")), ops(tins(2, "xy"))},
		{ops(tdel(1, 3), tdel(0, 2)), ops(tins(2, "xy")), ops(tdel(1, 1), tdel(3, 2), tdel(0, 1), tdel(2, 1)), ops(tins(0, "xy"))},
		{ops(tdel(1, 3)), ops(tins(2, "xy"), tdel(1, 4)), ops(tdel(1, 1)), ops(tins(1, "xy"), tdel(1, 2))},
		{ops(tdel(0, 6)), ops(tins(3, "x"), tdel(0, 3), tins(1, "yz")), ops(tdel(3, 3)), ops(tins(0, "x"), tins(1, "yz"))},
	}
	for _, r := range rows {
		r.holds(t)
	}
	all := []struct {
		a, b []api.Comp
		want string
	}{
		{ops(tdel(1, 3)), ops(tins(2, "xy")), `"axyef"`},
		{ops(tdel(1, 3)), ops(tins(2, "x"), tins(4, "y")), `"axyef"`},
		{ops(tdel(1, 3), tdel(0, 2)), ops(tins(2, "xy")), `"xyf"`},
		{ops(tdel(0, 6)), ops(tins(3, "x"), tdel(0, 3), tins(1, "yz")), `"xyz"`},
	}
	for _, r := range all {
		if s, _ := json.Encode(bothWays(t, txt("abcdef"), r.a, r.b)); s != r.want {
			t.Errorf("%+v and %+v: %s", r.a, r.b, s)
		}
		if s, _ := json.Encode(bothWays(t, txt("abcdef"), r.b, r.a)); s != r.want {
			t.Errorf("%+v and %+v: %s", r.b, r.a, s)
		}
	}
}
