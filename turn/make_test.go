package turn_test

import (
	"math/rand"
	"reflect"
	"strings"
	"testing"

	"conciliator/api"
	"conciliator/json"
	"conciliator/turn"
)

// What the tests make values, paths and components of, and hold against what Turn answers.

func number(n int64) api.Val           { return api.Val{Kind: api.Int, N: n} }
func txt(s string) api.Val             { return api.Val{Kind: api.Text, S: s} }
func list(l ...api.Val) api.Val        { return api.Val{Kind: api.List, L: l} }
func object(o ...api.Field) api.Val    { return api.Val{Kind: api.Obj, O: o} }
func at(k string, v api.Val) api.Field { return api.Field{Key: k, V: v} }

func way(p ...api.Step) []api.Step { return p }
func nth(i int) api.Step           { return api.Step{List: true, I: i} }
func key(k string) api.Step        { return api.Step{Key: k} }

func add(n int64) api.Comp             { return api.Comp{Kind: api.Add, N: n} }
func put(k string, v api.Val) api.Comp { return api.Comp{Kind: api.Put, Key: k, V: v} }
func del(k string) api.Comp            { return api.Comp{Kind: api.Del, Key: k} }
func ins(i int, v api.Val) api.Comp    { return api.Comp{Kind: api.Ins, I: i, V: v} }
func rem(i int) api.Comp               { return api.Comp{Kind: api.Rem, I: i} }
func set(i int, v api.Val) api.Comp    { return api.Comp{Kind: api.Set, I: i, V: v} }
func move(i, j int) api.Comp           { return api.Comp{Kind: api.Move, I: i, J: j} }
func tins(i int, s string) api.Comp    { return api.Comp{Kind: api.Tins, I: i, S: s} }
func tdel(i int, n int64) api.Comp     { return api.Comp{Kind: api.Tdel, I: i, N: n} }

func comps(l ...api.Comp) []api.Comp { return l }

// path is a component at a path.
func path(c api.Comp, p ...api.Step) api.Comp {
	c.Path = p
	return c
}

// below is a component at a path further down: p leads to where its own begins.
func below(c api.Comp, p ...api.Step) api.Comp {
	c.Path = append(append(way(), p...), c.Path...)
	return c
}

func gives(v api.Val, c api.Comp) api.Comp { c.V = v; return c }

func kind(k uint8, c api.Comp) api.Comp { c.Kind = k; return c }

// ordinary is a sound component of each of the nine kinds.
func ordinary() []api.Comp {
	return comps(
		add(2), put("k", txt("x")), del("k"),
		ins(1, txt("x")), rem(1), set(1, txt("x")), move(1, 2),
		tins(1, "xy"), tdel(1, 2),
	)
}

// odd is a component of each of some kinds that there are none of.
func odd() []api.Comp { return comps(api.Comp{}, kind(10, laden(0)), kind(255, laden(0))) }

// ladenOnes are components of each of the nine kinds, and of others, with something in all their fields.
func ladenOnes() []api.Comp {
	var all []api.Comp
	for k := range uint8(12) {
		all = append(all, laden(k))
	}
	return append(all, laden(255))
}

// laden is a component of that kind with something in all its fields, at no path.
func laden(kind uint8) api.Comp {
	return api.Comp{Kind: kind, Key: "k", I: 4, J: 2, N: 3, V: rich(), S: "s\xc3"}
}

// rich is a value with something everywhere, sound and not; its lists lie ahead of others in their memory.
func rich() api.Val {
	vals := []api.Val{txt("x"), number(5), {Kind: 9, N: -3, S: "\xc0", L: []api.Val{number(1)}, O: []api.Field{}}, txt("behind")}
	v := list(vals[:3]...)
	v.L = vals[:3]
	v.O = []api.Field{at("b", list(txt("y"), object(at("", txt("z"))))), at("a", number(2)), at("behind", number(3))}[:2]
	return v
}

// twin is a copy made for the tests alone, in memory of its own.
func twin(c api.Comp) api.Comp {
	var p []api.Step
	for _, s := range c.Path {
		p = append(p, api.Step{List: s.List, I: s.I, Key: strings.Clone(s.Key)})
	}
	c.Path, c.Key, c.S, c.V = p, strings.Clone(c.Key), strings.Clone(c.S), twinValue(c.V)
	return c
}

func twinValue(v api.Val) api.Val {
	w := api.Val{Kind: v.Kind, N: v.N, S: strings.Clone(v.S)}
	for _, x := range v.L {
		w.L = append(w.L, twinValue(x))
	}
	for _, f := range v.O {
		w.O = append(w.O, at(strings.Clone(f.Key), twinValue(f.V)))
	}
	return w
}

func twins(l []api.Comp) []api.Comp {
	var all []api.Comp
	for _, c := range l {
		all = append(all, twin(c))
	}
	return all
}

// alike says that all fields are the same; lists that are nil and empty ones are, too.
func alike(a, b []api.Comp) bool { return reflect.DeepEqual(twins(a), twins(b)) }

// turned is a, behind b: what is to be done if a is left, and if it is not.
type turned struct {
	a, b        api.Comp
	left, right []api.Comp
}

// both is for those where it does not matter.
func both(a, b api.Comp, want ...api.Comp) turned { return turned{a, b, want, want} }

// alone is for those where nothing changes.
func alone(a, b api.Comp) turned { return both(a, b, a) }

// either is for those where something is to be done both ways, but not the same.
func either(a, b, left, right api.Comp) turned { return turned{a, b, comps(left), comps(right)} }

// leftAlone is for those where something is to be done by the left one alone.
func leftAlone(a, b api.Comp) turned { return turned{a, b, comps(a), nil} }

// holds says that Turn answers what it is to answer.
func (r turned) holds(t *testing.T) {
	t.Helper()
	for _, left := range []bool{true, false} {
		want := r.right
		if left {
			want = r.left
		}
		if got := turn.Turn(r.a, r.b, left); !alike(got, want) {
			t.Errorf("%+v behind %+v, left %v: %+v, not %+v", r.a, r.b, left, got, want)
		}
	}
}

// holdsBelow says so also where both stand further down in a value.
func (r turned) holdsBelow(t *testing.T) {
	t.Helper()
	r.holds(t)
	for _, p := range someWays() {
		q := turned{a: below(r.a, p...), b: below(r.b, p...)}
		for _, c := range r.left {
			q.left = append(q.left, below(c, p...))
		}
		for _, c := range r.right {
			q.right = append(q.right, below(c, p...))
		}
		q.holds(t)
	}
}

// someWays are paths, sound and not.
func someWays() [][]api.Step {
	long := make([]api.Step, 40)
	long[39] = nth(3)
	return [][]api.Step{
		way(nth(0)), way(nth(1)), way(key("")), way(key("k")), way(nth(4), key("k")), way(key("k"), nth(1), nth(1)),
		long[:14], long[:15], long[:16], long,
		way(api.Step{List: true, I: -1, Key: "\xff"}, api.Step{I: 7}),
	}
}

// value is what a text says.
func value(t *testing.T, s string) api.Val {
	t.Helper()
	v, e := json.Decode(s)
	if e != api.OK {
		t.Fatalf("%s is no value", s)
	}
	return v
}

// paths are all ways into a value.
func paths(v api.Val) [][]api.Step {
	all := [][]api.Step{nil}
	for i, x := range v.L {
		all = append(all, behind(nth(i), paths(x))...)
	}
	for _, f := range v.O {
		all = append(all, behind(key(f.Key), paths(f.V))...)
	}
	return all
}

func behind(s api.Step, rest [][]api.Step) [][]api.Step {
	var all [][]api.Step
	for _, p := range rest {
		all = append(all, append(way(s), p...))
	}
	return all
}

var texts = []string{"", "a", "b", "\u00e9\u20ac"}

// chance makes a sound value, most often one with others in it.
func chance(r *rand.Rand, deep int) api.Val {
	v := api.Val{Kind: api.Text + uint8(r.Intn(3))}
	if r.Intn(4) == 0 || deep == 0 {
		v.Kind = uint8(r.Intn(6))
	}
	switch v.Kind {
	case api.Int, api.Bool:
		v.N = r.Int63n(2)
	case api.Text:
		v.S = texts[r.Intn(4)] + texts[r.Intn(4)] + texts[r.Intn(4)]
	case api.List:
		for range r.Intn(4) * min(deep, 1) {
			v.L = append(v.L, chance(r, deep-1))
		}
	case api.Obj:
		for _, k := range texts {
			if deep > 0 && r.Intn(2) == 0 {
				v.O = append(v.O, at(k, chance(r, deep-1)))
			}
		}
	}
	return v
}

// chanceComp makes a component that works on that value, with a number in it if that is of no other use.
func chanceComp(r *rand.Rand, v api.Val) api.Comp {
	some, n := texts[r.Intn(4)], max(1, len(v.L))
	switch v.Kind {
	case api.Obj:
		return comps(put(some, chance(r, 1)), del(some))[r.Intn(2)]
	case api.List:
		return comps(ins(r.Intn(n+1), chance(r, 1)), rem(r.Intn(n)), set(r.Intn(n), chance(r, 1)), move(r.Intn(n), r.Intn(n)))[r.Intn(4)]
	case api.Text:
		return comps(tins(r.Intn(4), "x"+some), tdel(r.Intn(3), 1+r.Int63n(4)))[r.Intn(2)]
	}
	return add(r.Int63() - r.Int63())
}
