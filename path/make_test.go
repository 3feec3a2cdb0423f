package path_test

import (
	"math/rand"
	"strings"

	"conciliator/api"
)

// What the tests make values and paths of.

func null() api.Val                    { return api.Val{} }
func boolean(n int64) api.Val          { return api.Val{Kind: api.Bool, N: n} }
func number(n int64) api.Val           { return api.Val{Kind: api.Int, N: n} }
func txt(s string) api.Val             { return api.Val{Kind: api.Text, S: s} }
func list(l ...api.Val) api.Val        { return api.Val{Kind: api.List, L: l} }
func object(o ...api.Field) api.Val    { return api.Val{Kind: api.Obj, O: o} }
func at(k string, v api.Val) api.Field { return api.Field{Key: k, V: v} }

func way(p ...api.Step) []api.Step { return p }
func nth(i int) api.Step           { return api.Step{List: true, I: i} }
func key(k string) api.Step        { return api.Step{Key: k} }

// nest lays a value into a list or an object, in turns, so many times: at the place where the path leads.
func nest(v api.Val, times int) (api.Val, []api.Step) {
	p := make([]api.Step, times)
	for i := range times {
		if i%2 == 0 {
			v, p[times-1-i] = list(v), nth(0)
		} else {
			v, p[times-1-i] = object(at("k", v)), key("k")
		}
	}
	return v, p
}

// everyKind are sound values of each kind.
func everyKind() []api.Val {
	return []api.Val{
		null(),
		boolean(0), boolean(1),
		number(0), number(7), number(-1 << 63),
		txt(""), txt("ab"), txt("\u00e4\U0010ffff"),
		list(), list(null()), list(number(1), txt("ab"), list(boolean(1))),
		object(), object(at("", null())), object(at("a", number(1)), at("b", list(txt("x"))), at("c", object(at("d", boolean(0))))),
	}
}

// oddOnes are values that are not sound.
func oddOnes() []api.Val {
	return []api.Val{
		{Kind: 6}, {Kind: 255},
		{Kind: api.Null, N: 1},
		{Kind: api.Bool, N: 2},
		{Kind: api.Text, S: "\xff", N: 1},
		{Kind: api.Int, S: "a", L: []api.Val{number(1)}, O: []api.Field{at("b", txt("cd"))}},
		{Kind: 9, N: -3, S: "\xc0", L: []api.Val{{Kind: 8}}, O: []api.Field{at("\xfe", number(1)), at("a", null())}},
		{Kind: api.List, L: []api.Val{number(1)}, O: []api.Field{at("a", number(2))}},
		{Kind: api.Obj, L: []api.Val{number(1)}, O: []api.Field{at("a", number(2)), at("a", number(3))}},
	}
}

var texts = []string{"", "a", "b", "ab", "\u00e9", "\xff"}

// chance makes a value, sound or not, most often one with others in it.
func chance(r *rand.Rand, deep int) api.Val {
	v := api.Val{Kind: api.List + uint8(r.Intn(2))}
	if r.Intn(4) == 0 || deep == 0 {
		v = api.Val{Kind: uint8(r.Intn(7)), N: r.Int63n(3), S: texts[r.Intn(len(texts))]}
	}
	odd := r.Intn(8) == 0
	for range r.Intn(4) * min(deep, 1) {
		if odd || v.Kind == api.List {
			v.L = append(v.L, chance(r, deep-1))
		}
	}
	for _, k := range texts {
		if odd {
			k = texts[r.Intn(len(texts))]
		}
		if (odd || v.Kind == api.Obj) && deep > 0 && r.Intn(2) == 0 {
			v.O = append(v.O, at(k, chance(r, deep-1)))
		}
	}
	return v
}

// chancePath makes a path that leads to somewhere in v, but for a step now and then.
func chancePath(r *rand.Rand, v api.Val) []api.Step {
	var p []api.Step
	for r.Intn(5) > 0 {
		switch {
		case r.Intn(12) == 0:
			return append(p, api.Step{List: r.Intn(2) == 0, I: r.Intn(6) - 2, Key: texts[r.Intn(len(texts))]})
		case v.Kind == api.List && len(v.L) > 0:
			i := r.Intn(len(v.L))
			p, v = append(p, nth(i)), v.L[i]
		case v.Kind == api.Obj && len(v.O) > 0:
			f := v.O[r.Intn(len(v.O))]
			p, v = append(p, key(f.Key)), f.V
		}
	}
	return p
}

// twin is a copy made for the tests alone, in memory of its own.
func twin(v api.Val) api.Val {
	w := api.Val{Kind: v.Kind, N: v.N, S: strings.Clone(v.S)}
	for _, x := range v.L {
		w.L = append(w.L, twin(x))
	}
	for _, f := range v.O {
		w.O = append(w.O, at(strings.Clone(f.Key), twin(f.V)))
	}
	return w
}
