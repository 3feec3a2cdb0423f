package val_test

import (
	"testing"

	"conciliator/api"
	"conciliator/val"
)

// No two of these are the same, and each is the same as a twin of it.
func TestSameOfAll(t *testing.T) {
	all := append(everyKind(), oddOnes()...)
	for i, a := range all {
		for j, b := range all {
			if got := val.Same(a, twin(b)); got != (i == j) {
				t.Errorf("Same(%+v, %+v) is %v", a, b, got)
			}
		}
	}
}

// A field counts whatever the kind: also where it says nothing.
func TestSameLooksAtAllFields(t *testing.T) {
	for k := range 256 {
		base := api.Val{Kind: uint8(k), N: 1, S: "a", L: []api.Val{number(1)}, O: []api.Field{at("a", number(1))}}
		change := []struct {
			name string
			do   func(v *api.Val)
		}{
			{"Kind", func(v *api.Val) { v.Kind++ }},
			{"N", func(v *api.Val) { v.N = 2 }},
			{"N, high bits", func(v *api.Val) { v.N += 1 << 40 }},
			{"S", func(v *api.Val) { v.S = "b" }},
			{"S longer", func(v *api.Val) { v.S = "ab" }},
			{"S empty", func(v *api.Val) { v.S = "" }},
			{"L shorter", func(v *api.Val) { v.L = nil }},
			{"L longer", func(v *api.Val) { v.L = append(v.L, null()) }},
			{"in L", func(v *api.Val) { v.L[0].N = 2 }},
			{"O shorter", func(v *api.Val) { v.O = nil }},
			{"O longer", func(v *api.Val) { v.O = append(v.O, at("b", null())) }},
			{"a key", func(v *api.Val) { v.O[0].Key = "b" }},
			{"in O", func(v *api.Val) { v.O[0].V.N = 2 }},
		}
		if !val.Same(base, twin(base)) {
			t.Fatalf("kind %d: not the same as itself", k)
		}
		for _, c := range change {
			other := twin(base)
			c.do(&other)
			if val.Same(base, other) || val.Same(other, base) {
				t.Errorf("kind %d, other %s: the same", k, c.name)
			}
		}
	}
}

func TestSameGoesOneByOne(t *testing.T) {
	differ := [][2]api.Val{
		{list(number(1), number(2)), list(number(2), number(1))},
		{list(number(1), number(2), number(3)), list(number(1), number(0), number(3))},
		{list(number(1), number(2)), list(number(1), number(0))},
		{list(list(null()), list()), list(list(), list(null()))},
		{list(null(), list(null())), list(list(null()), null())},
		{list(list(null(), null())), list(list(null()), null())},
		{object(at("a", number(1)), at("b", number(2))), object(at("b", number(2)), at("a", number(1)))},
		{object(at("a", number(1)), at("b", number(2))), object(at("a", number(2)), at("b", number(1)))},
		{keyed("ab", "c"), keyed("a", "bc")},
		{keyed("a", "a"), keyed("a")},
		{list(null()), {Kind: api.List, O: []api.Field{at("", null())}}},
		{nest(number(1), 50), nest(number(2), 50)},
		{nest(null(), 50), nest(null(), 52)},
		{txt("a\xff"), txt("a\xfe")}, {txt("\xff"), txt("\ufffd")}, {txt("\u00e9"), txt("e\u0301")},
	}
	for _, p := range differ {
		if val.Same(p[0], p[1]) || val.Same(p[1], p[0]) {
			t.Errorf("the same: %+v, %+v", p[0], p[1])
		}
	}
}

func TestSameOfNilAndEmptyLists(t *testing.T) {
	behind := api.Val{Kind: api.List, L: []api.Val{number(1)}[:0], O: []api.Field{at("a", null())}[:0]}
	empty := api.Val{Kind: api.List, L: []api.Val{}, O: []api.Field{}}
	for _, v := range []api.Val{behind, empty} {
		if !val.Same(v, list()) || !val.Same(list(), v) || !val.Same(list(v), list(list())) {
			t.Errorf("%+v is not the same as nil", v)
		}
	}
	if !val.Same(list([]api.Val{number(1), number(2)}[:1]...), list(number(1))) {
		t.Error("what lies behind a list's length counts")
	}
}
