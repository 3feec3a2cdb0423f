package path_test

import (
	"reflect"
	"slices"
	"testing"

	"conciliator/api"
	"conciliator/path"
)

// place is a path into a value, and what stands there; with none: ErrPath.
type place struct {
	v    api.Val
	p    []api.Step
	want api.Val
	none bool
}

func found(v api.Val, want api.Val, p ...api.Step) place { return place{v: v, p: p, want: want} }
func nowhere(v api.Val, p ...api.Step) place             { return place{v: v, p: p, none: true} }

func listPlaces() []place {
	l := list(number(1), txt("ab"), list(boolean(1)))
	return []place{
		found(l, number(1), nth(0)),
		found(l, txt("ab"), nth(1)),
		found(l, list(boolean(1)), nth(2)),
		found(l, boolean(1), nth(2), nth(0)),
		nowhere(l, nth(3)),
		nowhere(l, nth(4)),
		nowhere(l, nth(-1)),
		nowhere(l, nth(-3)),
		nowhere(l, nth(1<<63-1)),
		nowhere(l, nth(-1<<63)),
		nowhere(l, nth(1<<32)),
		nowhere(l, nth(2), nth(1)),
		nowhere(l, nth(2), nth(-1)),
		nowhere(list(), nth(0)),
		nowhere(list(), nth(-1)),
		nowhere(l, key("")),
		nowhere(l, key("0")),
		nowhere(l, nth(2), key("a")),
		found(l, txt("ab"), api.Step{List: true, I: 1, Key: "a"}), // a Key says nothing there
		found(l, number(1), api.Step{List: true, Key: "\xff"}),
	}
}

func objectPlaces() []place {
	o := object(at("b", number(1)), at("d", object(at("", txt("x")), at("y", null()))), at("f", list(number(5))))
	return []place{
		found(o, number(1), key("b")),
		found(o, o.O[1].V, key("d")),
		found(o, list(number(5)), key("f")),
		found(o, txt("x"), key("d"), key("")),
		found(o, null(), key("d"), key("y")),
		found(o, number(5), key("f"), nth(0)),
		nowhere(o, key("")),
		nowhere(o, key("a")),
		nowhere(o, key("c")),
		nowhere(o, key("e")),
		nowhere(o, key("g")),
		nowhere(o, key("bb")),
		nowhere(o, key("B")),
		nowhere(o, key("\xff")),
		nowhere(o, key("d"), key("x")),
		nowhere(o, key("d"), key("z")),
		nowhere(o, key("f"), nth(1)),
		nowhere(o, key("f"), key("")),
		nowhere(object(), key("")),
		nowhere(o, nth(0)),
		nowhere(o, nth(1), key("y")),
		nowhere(o, key("d"), nth(0)),
		found(o, number(1), api.Step{I: 7, Key: "b"}), // an I says nothing there
		found(o, number(5), api.Step{I: -1, Key: "f"}, nth(0)),
	}
}

// Values that are not sound are gone through all the same: by their Kind, and by val.Field.
func oddPlaces() []place {
	falling := object(at("b", number(1)), at("a", number(2)))
	double := object(at("a", number(1)), at("a", number(2)), at("b", number(3)))
	both := []api.Val{number(1)}
	keys := []api.Field{at("a", number(2))}
	return []place{
		found(falling, number(1), key("b")),
		nowhere(falling, key("a")), // the first that is not below it is b
		found(double, number(1), key("a")),
		found(double, number(3), key("b")),
		found(object(at("\xff", number(4))), number(4), key("\xff")),
		found(api.Val{Kind: api.List, L: both, O: keys}, number(1), nth(0)),
		nowhere(api.Val{Kind: api.List, L: both, O: keys}, key("a")),
		found(api.Val{Kind: api.Obj, L: both, O: keys}, number(2), key("a")),
		nowhere(api.Val{Kind: api.Obj, L: both, O: keys}, nth(0)),
		nowhere(api.Val{Kind: api.Null, L: both, O: keys}, nth(0)),
		nowhere(api.Val{Kind: api.Int, L: both, O: keys}, key("a")),
		nowhere(api.Val{Kind: 6, L: both, O: keys}, nth(0)),
		nowhere(api.Val{Kind: 6, L: both, O: keys}, key("a")),
		nowhere(api.Val{Kind: 255, L: both, O: keys}, nth(0)),
		// Of what lies behind the list's length nothing stands there.
		nowhere(api.Val{Kind: api.List, L: both[:0]}, nth(0)),
		nowhere(api.Val{Kind: api.Obj, O: keys[:0]}, key("a")),
	}
}

// kindPlaces are values of each kind at a path's end, and on its way.
func kindPlaces() []place {
	var all []place
	for _, v := range append(everyKind(), oddOnes()...) {
		all = append(all,
			found(v, v),
			found(list(null(), v), v, nth(1)),
			found(object(at("a", null()), at("b", v)), v, key("b")),
		)
		if v.Kind != api.List {
			all = append(all, nowhere(v, nth(0)), nowhere(list(v), nth(0), nth(0)))
		}
		if v.Kind != api.Obj {
			all = append(all, nowhere(v, key("")), nowhere(v, key("a")), nowhere(list(v), nth(0), key("a"), key("b")))
		}
	}
	return all
}

// longPlaces are paths of many steps, more than a path that is sound may have.
func longPlaces() []place {
	var all []place
	for _, n := range []int{15, 16, 17, 18, 60} {
		v, p := nest(txt("x"), n)
		all = append(all, found(v, txt("x"), p...), nowhere(v, append(slices.Clone(p), nth(0))...))
		astray := slices.Clone(p)
		astray[n-1] = nth(1)
		all = append(all, nowhere(v, astray...), found(v, list(txt("x")), p[:n-1]...))
	}
	return all
}

func places() []place {
	v := object(at("a", list(number(1), number(2)))) // the chapter's example
	return slices.Concat(listPlaces(), objectPlaces(), oddPlaces(), kindPlaces(), longPlaces(), []place{
		found(v, number(2), key("a"), nth(1)),
		nowhere(v, key("a"), nth(5)),
	})
}

func TestGet(t *testing.T) {
	for _, r := range places() {
		x, e := path.Get(r.v, r.p)
		if r.none && (e != api.ErrPath || !reflect.DeepEqual(x, api.Val{})) {
			t.Errorf("Get(%+v, %+v) is %+v, %d, not ErrPath", r.v, r.p, x, e)
		}
		if !r.none && (e != api.OK || !reflect.DeepEqual(twin(x), twin(r.want))) {
			t.Errorf("Get(%+v, %+v) is %+v, %d, not %+v", r.v, r.p, x, e, r.want)
		}
	}
}

func TestErrPath(t *testing.T) {
	if _, e := path.Get(null(), way(nth(0))); uint16(e) != 30 {
		t.Errorf("ErrPath is %d", e)
	}
}

// The empty path leads to all of a value, and nil and an empty one are the same.
func TestGetOfNoPath(t *testing.T) {
	for _, v := range append(everyKind(), oddOnes()...) {
		for _, p := range [][]api.Step{nil, {}, way(nth(5))[:0]} {
			if x, e := path.Get(v, p); e != api.OK || !reflect.DeepEqual(x, v) {
				t.Errorf("Get(%+v, %#v) is %+v, %d", v, p, x, e)
			}
		}
	}
}
