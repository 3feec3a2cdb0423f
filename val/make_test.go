package val_test

import (
	"math/rand"
	"strings"

	"conciliator/api"
)

// What the tests make values of.

func null() api.Val                    { return api.Val{} }
func boolean(n int64) api.Val          { return api.Val{Kind: api.Bool, N: n} }
func number(n int64) api.Val           { return api.Val{Kind: api.Int, N: n} }
func txt(s string) api.Val             { return api.Val{Kind: api.Text, S: s} }
func list(l ...api.Val) api.Val        { return api.Val{Kind: api.List, L: l} }
func object(o ...api.Field) api.Val    { return api.Val{Kind: api.Obj, O: o} }
func at(k string, v api.Val) api.Field { return api.Field{Key: k, V: v} }

// keyed is an object of these keys, in this order.
func keyed(keys ...string) api.Val {
	v := object()
	for _, k := range keys {
		v.O = append(v.O, at(k, null()))
	}
	return v
}

// nest lays a value into a list or an object, in turns, so many times.
func nest(v api.Val, times int) api.Val {
	for i := range times {
		if i%2 == 0 {
			v = list(v)
		} else {
			v = object(at("k", v))
		}
	}
	return v
}

// everyKind are sound values of each kind, with what says something there at its edges.
func everyKind() []api.Val {
	return []api.Val{
		null(),
		boolean(0), boolean(1),
		number(0), number(7), number(-1), number(1<<63 - 1), number(-1 << 63),
		txt(""), txt("ab"), txt("\x00"), txt("\u00e4\u20ac\U0010ffff"), txt("\ufffd"),
		list(), list(null()), list(number(1), txt("ab"), list(boolean(1))),
		object(), object(at("", null())), object(at("a", number(1)), at("b", list(txt("x"))), at("c", object(at("d", boolean(0))))),
	}
}

// oddOnes are values that are not sound.
func oddOnes() []api.Val {
	return []api.Val{
		{Kind: 6}, {Kind: 255},
		{Kind: api.Null, N: 1},
		{Kind: api.Bool, N: 2}, {Kind: api.Bool, N: -1},
		{Kind: api.Text, S: "\xff"}, {Kind: api.Text, S: "a", N: 1},
		{Kind: api.Int, S: "a", L: []api.Val{number(1)}, O: []api.Field{at("b", txt("cd"))}},
		{Kind: 9, N: -3, S: "\xc0", L: []api.Val{{Kind: 8}}, O: []api.Field{at("\xfe", number(1)), at("a", null()), at("a", null())}},
		keyed("b", "a"), keyed("a", "a"), keyed("\x80"),
		list(api.Val{Kind: 7, S: "xyz"}),
	}
}

// chance makes a value of any kind, sound or not, with others in it.
func chance(r *rand.Rand, deep int) api.Val {
	texts := []string{"", "a", "b", "ab", "\u00e9", "\U0001f600", "\xff", "a\xed\xa0\x80"}
	v := api.Val{Kind: uint8(r.Intn(7)), N: r.Int63n(4) - 1, S: texts[r.Intn(len(texts))]}
	if r.Intn(3) > 0 {
		v = api.Val{Kind: v.Kind}
	}
	if deep == 0 {
		return v
	}
	for range r.Intn(4) {
		v.L = append(v.L, chance(r, deep-1))
	}
	for range r.Intn(4) {
		v.O = append(v.O, at(texts[r.Intn(len(texts))], chance(r, deep-1)))
	}
	return v
}

// twin is a copy made for the tests alone, so that Copy is not held against itself.
func twin(v api.Val) api.Val {
	w := api.Val{Kind: v.Kind, N: v.N, S: strings.Clone(v.S)}
	for _, x := range v.L {
		w.L = append(w.L, twin(x))
	}
	for _, f := range v.O {
		w.O = append(w.O, at(strings.Clone(f.Key), twin(f.V)))
	}
	return w
}
