package comp_test

import (
	"math"
	"math/rand"
	"strings"

	"conciliator/api"
)

// What the tests make values, paths and components of.

func null() api.Val                    { return api.Val{} }
func boolean(n int64) api.Val          { return api.Val{Kind: api.Bool, N: n} }
func number(n int64) api.Val           { return api.Val{Kind: api.Int, N: n} }
func txt(s string) api.Val             { return api.Val{Kind: api.Text, S: s} }
func list(l ...api.Val) api.Val        { return api.Val{Kind: api.List, L: l} }
func object(o ...api.Field) api.Val    { return api.Val{Kind: api.Obj, O: o} }
func at(k string, v api.Val) api.Field { return api.Field{Key: k, V: v} }

func way(p ...api.Step) []api.Step { return p }
func nth(i int) api.Step           { return api.Step{List: true, I: i} }
func key(k string) api.Step        { return api.Step{Key: k} }

func add(n int64) api.Comp             { return api.Comp{Kind: api.Add, N: n} }
func put(k string, v api.Val) api.Comp { return api.Comp{Kind: api.Put, Key: k, V: v} }
func del(k string) api.Comp            { return api.Comp{Kind: api.Del, Key: k} }
func ins(i int, v api.Val) api.Comp    { return api.Comp{Kind: api.Ins, I: i, V: v} }
func rem(i int) api.Comp               { return api.Comp{Kind: api.Rem, I: i} }
func set(i int, v api.Val) api.Comp    { return api.Comp{Kind: api.Set, I: i, V: v} }
func move(i, j int) api.Comp           { return api.Comp{Kind: api.Move, I: i, J: j} }
func tins(i int, s string) api.Comp    { return api.Comp{Kind: api.Tins, I: i, S: s} }
func tdel(i int, n int64) api.Comp     { return api.Comp{Kind: api.Tdel, I: i, N: n} }

func comps(l ...api.Comp) []api.Comp { return l }
func path(c api.Comp, p ...api.Step) api.Comp {
	c.Path = p
	return c
}
func gives(v api.Val, c api.Comp) api.Comp { c.V = v; return c }

// ordinary is a sound component of each kind.
func ordinary() []api.Comp {
	return comps(
		add(2), put("k", txt("x")), del("k"),
		ins(1, txt("x")), rem(1), set(1, txt("x")), move(1, 2),
		tins(1, "xy"), tdel(1, 2),
	)
}

// giving are those of them that have a V.
func giving() []api.Comp { return comps(put("k", null()), ins(1, null()), set(1, null())) }

// steps is a path of so many.
func steps(n int) []api.Step {
	p := make([]api.Step, n)
	for i := range p {
		if i%2 == 0 {
			p[i] = nth(i)
		} else {
			p[i] = key("k")
		}
	}
	return p
}

// nest lays a value into a list or an object, in turns, so many times: at the place where the path leads.
func nest(v api.Val, times int) (api.Val, []api.Step) {
	p := make([]api.Step, times)
	for i := range times {
		if i%2 == 0 {
			v, p[times-1-i] = list(v), nth(0)
		} else {
			v, p[times-1-i] = object(at("k", v)), key("k")
		}
	}
	return v, p
}

// deep is a value so deep.
func deep(n int) api.Val {
	v, _ := nest(number(1), n)
	return v
}

// everyKind are sound values of each kind.
func everyKind() []api.Val {
	return []api.Val{
		null(),
		boolean(0), boolean(1),
		number(0), number(7), number(math.MinInt64), number(math.MaxInt64),
		txt(""), txt("ab"), txt("\u00e4\U0010ffff"),
		list(), list(null()), list(number(1), txt("ab"), list(boolean(1))),
		object(), object(at("", null())), object(at("a", number(1)), at("b", list(txt("x"))), at("c", object(at("d", boolean(0))))),
	}
}

// oddOnes are values that are not sound.
func oddOnes() []api.Val {
	return []api.Val{
		{Kind: 6}, {Kind: 255},
		{Kind: api.Null, N: 1}, {Kind: api.Null, S: "a"}, {Kind: api.Null, L: []api.Val{{}}}, {Kind: api.Null, O: []api.Field{{}}},
		{Kind: api.Bool, N: 2},
		{Kind: api.Text, S: "\xff"}, {Kind: api.Text, S: "a", N: 1},
		{Kind: api.Int, S: "a", L: []api.Val{number(1)}, O: []api.Field{at("b", txt("cd"))}},
		{Kind: 9, N: -3, S: "\xc0", L: []api.Val{{Kind: 8}}, O: []api.Field{at("\xfe", number(1)), at("a", null())}},
		{Kind: api.Obj, L: []api.Val{number(1)}, O: []api.Field{at("a", number(2)), at("a", number(3))}},
		object(at("b", null()), at("a", null())),
		list(txt("a"), list(api.Val{Kind: 7})),
	}
}

// rich is a value with something everywhere, sound and not; its lists lie ahead of others in their memory.
func rich() api.Val {
	vals := []api.Val{txt("x"), number(5), {Kind: 9, N: -3, S: "\xc0", L: []api.Val{number(1)}, O: []api.Field{}}, txt("behind")}
	v := list(vals[:3]...)
	v.L = vals[:3]
	v.O = []api.Field{at("b", list(txt("y"), object(at("", txt("z"))))), at("a", number(2)), at("behind", number(3))}[:2]
	return v
}

// laden is a component of that kind with something in all its fields.
func laden(kind uint8) api.Comp {
	p := way(key("a"), nth(3), api.Step{List: true, I: -1, Key: "\xff"}, key("behind"))
	return api.Comp{Kind: kind, Path: p[:3], Key: "k\xfe", I: 4, J: -5, N: 1 << 40, V: rich(), S: "s\xc3"}
}

// world is a sound value with all kinds of things in it; paths are all ways into it.
func world() api.Val {
	return object(
		at("", txt("a\u20acb")),
		at("l", list(number(1), txt("ab"), list(list(), object()), object(at("k", number(-7)), at("m", txt("")), at("z", boolean(1))))),
		at("n", number(math.MaxInt64)),
		at("o", object(at("b", null()), at("d", list(txt("x"), number(2))))),
	)
}

func paths(v api.Val) [][]api.Step {
	all := [][]api.Step{nil}
	for i, x := range v.L {
		all = append(all, behind(nth(i), paths(x))...)
	}
	for _, f := range v.O {
		all = append(all, behind(key(f.Key), paths(f.V))...)
	}
	return all
}

func behind(s api.Step, rest [][]api.Step) [][]api.Step {
	var all [][]api.Step
	for _, p := range rest {
		all = append(all, append(way(s), p...))
	}
	return all
}

// nowhere are paths that lead to nothing in a world.
func nowhere() [][]api.Step {
	return [][]api.Step{
		way(key("a")), way(key("zz")), way(nth(0)),
		way(key("l"), nth(4)), way(key("l"), key("k")), way(key("l"), nth(2), nth(0), nth(0)),
		way(key("n"), nth(0)), way(key("n"), key("")), way(key("o"), nth(0)), way(key("o"), key("c")),
		way(key(""), nth(0)), way(key("o"), key("b"), key("x")), way(key("a"), key("a"), key("a")),
	}
}

// attempts are components of each kind, sound and not, at places and keys that are in a world, at its ends, and beyond.
func attempts() []api.Comp {
	all := comps(add(0), add(1), add(-1), add(math.MinInt64), add(math.MaxInt64))
	for _, k := range []string{"", "a", "b", "c", "d", "k", "l", "n", "o", "z", "zz", "\xff"} {
		all = append(all, put(k, txt("new")), put(k, object(at("p", list()))), del(k))
	}
	for i := -1; i < 6; i++ {
		all = append(all, ins(i, list(number(9))), rem(i), set(i, null()), tins(i, "x\u20ac"), tins(i, ""))
		for j := -1; j < 6; j++ {
			all = append(all, move(i, j), tdel(i, int64(j)))
		}
	}
	all = append(all, gives(api.Val{Kind: 6}, ins(0, null())), tins(0, "\xff"), api.Comp{}, api.Comp{Kind: 10}, api.Comp{Kind: 255, N: 1})
	return append(all, api.Comp{Kind: api.Rem, S: "x"}, api.Comp{Kind: api.Add, Key: "l", N: 1})
}

// twin is a copy made for the tests alone, in memory of its own.
func twin(c api.Comp) api.Comp {
	var p []api.Step
	for _, s := range c.Path {
		p = append(p, api.Step{List: s.List, I: s.I, Key: strings.Clone(s.Key)})
	}
	c.Path, c.Key, c.S, c.V = p, strings.Clone(c.Key), strings.Clone(c.S), twinValue(c.V)
	return c
}

func twinValue(v api.Val) api.Val {
	w := api.Val{Kind: v.Kind, N: v.N, S: strings.Clone(v.S)}
	for _, x := range v.L {
		w.L = append(w.L, twinValue(x))
	}
	for _, f := range v.O {
		w.O = append(w.O, at(strings.Clone(f.Key), twinValue(f.V)))
	}
	return w
}

var texts = []string{"", "a", "b", "ab", "\u00e9", "\xff"}

// chance makes a value, sound or not, most often one with others in it.
func chance(r *rand.Rand, deep int) api.Val {
	v := api.Val{Kind: api.List + uint8(r.Intn(2))}
	if r.Intn(4) == 0 || deep == 0 {
		v.Kind = uint8(r.Intn(6))
	}
	odd := r.Intn(8) == 0
	if odd || v.Kind == api.Int || v.Kind == api.Bool {
		v.N = r.Int63n(2)
	}
	if odd || v.Kind == api.Text {
		v.S = texts[r.Intn(len(texts))]
	}
	for range r.Intn(4) * min(deep, 1) {
		if odd || v.Kind == api.List {
			v.L = append(v.L, chance(r, deep-1))
		}
	}
	for _, k := range texts {
		if odd {
			k = texts[r.Intn(len(texts))]
		}
		if (odd || v.Kind == api.Obj) && deep > 0 && r.Intn(2) == 0 {
			v.O = append(v.O, at(k, chance(r, deep-1)))
		}
	}
	return v
}

// chancePath makes a path that leads to somewhere in v, but for a step now and then.
func chancePath(r *rand.Rand, v api.Val) []api.Step {
	var p []api.Step
	for r.Intn(4) > 0 {
		switch {
		case r.Intn(16) == 0:
			return append(p, api.Step{List: r.Intn(2) == 0, I: r.Intn(6) - 2, Key: texts[r.Intn(len(texts))]})
		case v.Kind == api.List && len(v.L) > 0:
			i := r.Intn(len(v.L))
			p, v = append(p, nth(i)), v.L[i]
		case v.Kind == api.Obj && len(v.O) > 0:
			f := v.O[r.Intn(len(v.O))]
			p, v = append(p, key(f.Key)), f.V
		}
	}
	return p
}

// chanceComp makes a component that may most often be done somewhere in v.
func chanceComp(r *rand.Rand, v api.Val) api.Comp {
	some := func() string { return texts[r.Intn(len(texts))] }
	all := comps(
		add(r.Int63()-r.Int63()), put(some(), chance(r, 1)), del(some()),
		ins(r.Intn(4), chance(r, 1)), rem(r.Intn(3)), set(r.Intn(3), chance(r, 1)), move(r.Intn(4), r.Intn(4)),
		tins(r.Intn(3), some()), tdel(r.Intn(2), r.Int63n(3)),
	)
	c := all[r.Intn(len(all))]
	if r.Intn(16) == 0 {
		c.Kind = uint8(r.Intn(11))
	}
	return path(c, chancePath(r, v)...)
}
