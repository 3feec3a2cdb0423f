package path_test

import (
	"reflect"
	"testing"

	"conciliator/api"
	"conciliator/path"
)

// Put goes where Get goes, whatever is to be put: then it stands there, and what stood there makes the value again.
func TestPutWhereGetGoes(t *testing.T) {
	for _, r := range places() {
		for _, x := range append(everyKind(), oddOnes()...) {
			w, e := path.Put(r.v, r.p, x)
			if r.none {
				if e != api.ErrPath || !reflect.DeepEqual(w, api.Val{}) {
					t.Fatalf("Put(%+v, %+v) is %+v, %d, not ErrPath", r.v, r.p, w, e)
				}
				continue
			}
			if y, f := path.Get(w, r.p); e != api.OK || f != api.OK || !reflect.DeepEqual(y, x) {
				t.Fatalf("Put(%+v, %+v, %+v) is %+v, %d", r.v, r.p, x, w, e)
			}
			if back, e := path.Put(w, r.p, r.want); e != api.OK || !reflect.DeepEqual(twin(back), twin(r.v)) {
				t.Fatalf("Put(%+v, %+v, %+v) is another value elsewhere: %+v", r.v, r.p, x, w)
			}
		}
	}
}

func TestPut(t *testing.T) {
	nine := number(9)
	l := list(number(1), txt("ab"), list(boolean(1), null()))
	o := object(at("b", number(1)), at("d", object(at("", txt("x")), at("y", null()))), at("f", list(number(5))))
	rows := []struct {
		v    api.Val
		p    []api.Step
		x    api.Val
		want api.Val
	}{
		{l, way(nth(0)), nine, list(nine, l.L[1], l.L[2])},
		{l, way(nth(1)), nine, list(l.L[0], nine, l.L[2])},
		{l, way(nth(2)), nine, list(l.L[0], l.L[1], nine)},
		{l, way(nth(2), nth(0)), nine, list(l.L[0], l.L[1], list(nine, null()))},
		{l, way(nth(2), nth(1)), l, list(l.L[0], l.L[1], list(boolean(1), l))},
		{l, way(nth(2)), l.L[2].L[0], list(l.L[0], l.L[1], boolean(1))},
		{l, way(), l.L[2], l.L[2]},
		{l, nil, nine, nine},
		{null(), nil, o, o},
		{o, way(key("b")), nine, object(at("b", nine), o.O[1], o.O[2])},
		{o, way(key("d")), nine, object(o.O[0], at("d", nine), o.O[2])},
		{o, way(key("f")), nine, object(o.O[0], o.O[1], at("f", nine))},
		{o, way(key("d"), key("")), o, object(o.O[0], at("d", object(at("", o), at("y", null()))), o.O[2])},
		{o, way(key("d"), key("y")), list(), object(o.O[0], at("d", object(at("", txt("x")), at("y", list()))), o.O[2])},
		{o, way(key("f"), nth(0)), object(), object(o.O[0], o.O[1], at("f", list(object())))},
		// Of the same keys the first one's value is another then.
		{object(at("a", null()), at("a", null())), way(key("a")), nine, object(at("a", nine), at("a", null()))},
		// What a kind does not speak of stays.
		{api.Val{Kind: api.List, N: 3, S: "s", L: l.L, O: o.O}, way(nth(1)), nine, api.Val{Kind: api.List, N: 3, S: "s", L: []api.Val{l.L[0], nine, l.L[2]}, O: o.O}},
		{api.Val{Kind: api.Obj, N: 3, S: "s", L: l.L, O: o.O[:1]}, way(key("b")), nine, api.Val{Kind: api.Obj, N: 3, S: "s", L: l.L, O: []api.Field{at("b", nine)}}},
	}
	for _, r := range rows {
		want := twin(r.want)
		if w, e := path.Put(r.v, r.p, r.x); e != api.OK || !reflect.DeepEqual(twin(w), want) {
			t.Errorf("Put(%+v, %+v, %+v) is %+v, %d", r.v, r.p, r.x, w, e)
		}
	}
}

// What is too deep, or too heavy, for other calls is none of this one's.
func TestPutKeepsToNoLimit(t *testing.T) {
	v, p := nest(null(), 16)
	x, q := nest(list(make([]api.Val, 30000)...), 16)
	w, e := path.Put(v, p, x)
	if e != api.OK {
		t.Fatal(e)
	}
	if y, e := path.Get(w, append(p, q...)); e != api.OK || len(y.L) != 30000 {
		t.Error("what was put does not stand there")
	}
}
