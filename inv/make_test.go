package inv_test

import (
	"math/rand"
	"reflect"
	"strings"
	"testing"

	"conciliator/api"
	"conciliator/json"
	"conciliator/op"
)

// What the tests make values, paths, components and operations of, and hold against what is answered.

func number(n int64) api.Val           { return api.Val{Kind: api.Int, N: n} }
func txt(s string) api.Val             { return api.Val{Kind: api.Text, S: s} }
func list(l ...api.Val) api.Val        { return api.Val{Kind: api.List, L: l} }
func object(o ...api.Field) api.Val    { return api.Val{Kind: api.Obj, O: o} }
func at(k string, v api.Val) api.Field { return api.Field{Key: k, V: v} }

func way(p ...api.Step) []api.Step { return p }
func nth(i int) api.Step           { return api.Step{List: true, I: i} }
func key(k string) api.Step        { return api.Step{Key: k} }

func add(n int64) api.Comp             { return api.Comp{Kind: api.Add, N: n} }
func put(k string, v api.Val) api.Comp { return api.Comp{Kind: api.Put, Key: k, V: v} }
func del(k string) api.Comp            { return api.Comp{Kind: api.Del, Key: k} }
func ins(i int, v api.Val) api.Comp    { return api.Comp{Kind: api.Ins, I: i, V: v} }
func rem(i int) api.Comp               { return api.Comp{Kind: api.Rem, I: i} }
func set(i int, v api.Val) api.Comp    { return api.Comp{Kind: api.Set, I: i, V: v} }
func move(i, j int) api.Comp           { return api.Comp{Kind: api.Move, I: i, J: j} }
func tins(i int, s string) api.Comp    { return api.Comp{Kind: api.Tins, I: i, S: s} }
func tdel(i int, n int64) api.Comp     { return api.Comp{Kind: api.Tdel, I: i, N: n} }

// ops is an operation of these components.
func ops(l ...api.Comp) []api.Comp { return l }

// path is a component at a path.
func path(c api.Comp, p ...api.Step) api.Comp {
	c.Path = p
	return c
}

// behind is one list, and another one behind it.
func behind[T any](a, b []T) []T {
	var all []T
	return append(append(all, a...), b...)
}

// ordinary is a sound component of each of the nine kinds, none of which does nothing.
func ordinary() []api.Comp {
	return ops(
		add(2), put("k", txt("x")), del("k"),
		ins(1, txt("x")), rem(1), set(1, txt("x")), move(1, 2),
		tins(1, "xy"), tdel(1, 2),
	)
}

// fitting is a value of the kind that a component's kind works on; ordinary ones may be done to it.
func fitting(kind uint8) api.Val {
	switch kind {
	case api.Add:
		return number(5)
	case api.Put, api.Del:
		return object(at("a", number(1)), at("k", list(txt("y"))), at("m", api.Val{}))
	case api.Tins, api.Tdel:
		return txt("a\u00e9\u20ac\U0001f600b")
	}
	return list(number(1), txt("b"), object(at("p", list())), number(4))
}

// rich is a value with something everywhere, sound and not; its lists lie ahead of others in their memory.
func rich() api.Val {
	vals := []api.Val{txt("x"), number(5), {Kind: 9, N: -3, S: "\xc0", L: []api.Val{number(1)}, O: []api.Field{}}, txt("behind")}
	v := list(vals[:3]...)
	v.L = vals[:3]
	v.O = []api.Field{at("b", list(txt("y"), object(at("", txt("z"))))), at("a", number(2)), at("behind", number(3))}[:2]
	return v
}

// twin is a copy made for the tests alone, in memory of its own.
func twin(c api.Comp) api.Comp {
	var p []api.Step
	for _, s := range c.Path {
		p = append(p, api.Step{List: s.List, I: s.I, Key: strings.Clone(s.Key)})
	}
	c.Path, c.Key, c.S, c.V = p, strings.Clone(c.Key), strings.Clone(c.S), twinValue(c.V)
	return c
}

func twinValue(v api.Val) api.Val {
	w := api.Val{Kind: v.Kind, N: v.N, S: strings.Clone(v.S)}
	for _, x := range v.L {
		w.L = append(w.L, twinValue(x))
	}
	for _, f := range v.O {
		w.O = append(w.O, at(strings.Clone(f.Key), twinValue(f.V)))
	}
	return w
}

func twins(l []api.Comp) []api.Comp {
	var all []api.Comp
	for _, c := range l {
		all = append(all, twin(c))
	}
	return all
}

// alike says that all fields are the same; lists that are nil and empty ones are, too.
func alike(a, b []api.Comp) bool { return reflect.DeepEqual(twins(a), twins(b)) }

func alikeValues(v, w api.Val) bool { return reflect.DeepEqual(twinValue(v), twinValue(w)) }

// value is what a text says.
func value(t *testing.T, s string) api.Val {
	t.Helper()
	v, e := json.Decode(s)
	if e != api.OK {
		t.Fatalf("%s is no value", s)
	}
	return v
}

// do is a value to which an operation is done, which may be.
func do(t *testing.T, v api.Val, l []api.Comp) api.Val {
	t.Helper()
	w, e := op.Do(v, l)
	if e != api.OK {
		t.Fatalf("Do(%+v, %+v) tells %d", v, l, e)
	}
	return w
}

// paths are all ways into a value.
func paths(v api.Val) [][]api.Step {
	all := [][]api.Step{nil}
	for i, x := range v.L {
		for _, p := range paths(x) {
			all = append(all, behind(way(nth(i)), p))
		}
	}
	for _, f := range v.O {
		for _, p := range paths(f.V) {
			all = append(all, behind(way(key(f.Key)), p))
		}
	}
	return all
}

// there is what stands where a path leads.
func there(v api.Val, p []api.Step) api.Val {
	for _, s := range p {
		if s.List {
			v = v.L[s.I]
			continue
		}
		for _, f := range v.O {
			if f.Key == s.Key {
				v = f.V
				break
			}
		}
	}
	return v
}

var texts = []string{"", "a", "b", "\u00e9\u20ac"}

// chance makes a sound value, most often one with others in it.
func chance(r *rand.Rand, deep int) api.Val {
	v := api.Val{Kind: api.Text + uint8(r.Intn(3))}
	if r.Intn(4) == 0 || deep == 0 {
		v.Kind = uint8(r.Intn(6))
	}
	switch v.Kind {
	case api.Int, api.Bool:
		v.N = r.Int63n(2)
	case api.Text:
		v.S = texts[r.Intn(4)] + texts[r.Intn(4)] + texts[r.Intn(4)]
	case api.List:
		for range r.Intn(4) * min(deep, 1) {
			v.L = append(v.L, chance(r, deep-1))
		}
	case api.Obj:
		for _, k := range texts {
			if deep > 0 && r.Intn(2) == 0 {
				v.O = append(v.O, at(k, chance(r, deep-1)))
			}
		}
	}
	return v
}

// chanceComp makes a component that works on that value.
func chanceComp(r *rand.Rand, v api.Val) api.Comp {
	some, n := texts[r.Intn(4)], max(1, len(v.L))
	switch v.Kind {
	case api.Obj:
		return ops(put(some, chance(r, 1)), del(some))[r.Intn(2)]
	case api.List:
		return ops(ins(r.Intn(n+1), chance(r, 1)), rem(r.Intn(n)), set(r.Intn(n), chance(r, 1)), move(r.Intn(n), r.Intn(n)))[r.Intn(4)]
	case api.Text:
		return ops(tins(r.Intn(4), "x"+some), tdel(r.Intn(3), 1+r.Int63n(4)))[r.Intn(2)]
	}
	return add(r.Int63n(5) - 2)
}

// chanceOp makes an operation that may be done to a value; now and then many of its components work at one place.
func chanceOp(r *rand.Rand, v api.Val, most int) []api.Comp {
	var l []api.Comp
	var p []api.Step
	for range r.Intn(most + 1) {
		if all := paths(v); r.Intn(2) == 0 || !leads(all, p) {
			p = all[r.Intn(len(all))]
		}
		c := path(chanceComp(r, there(v, p)), p...)
		w, e := op.Do(v, ops(c))
		if e == api.OK {
			l, v = append(l, c), w
		}
	}
	return l
}

// leads says whether a path is one of these.
func leads(all [][]api.Step, p []api.Step) bool {
	for _, q := range all {
		if reflect.DeepEqual(way(q...), way(p...)) {
			return true
		}
	}
	return false
}

// wild makes an operation of anything.
func wild(r *rand.Rand, most int) []api.Comp {
	keys := []string{"", "k", "\xff", "\xc3", "\xa9", "\u20ac"}
	some := func() int { return edges[r.Intn(len(edges))] * r.Intn(2) }
	var l []api.Comp
	for range r.Intn(most + 1) {
		c := api.Comp{Kind: uint8(1 + r.Intn(9)), Key: keys[r.Intn(2)], I: some(), J: some(), N: int64(some()), S: keys[r.Intn(6)], V: chance(r, 1)}
		if r.Intn(16) == 0 {
			c.Kind = uint8(r.Intn(256))
		}
		for range r.Intn(3) {
			c.Path = append(c.Path, api.Step{List: r.Intn(2) == 0, I: r.Intn(3), Key: keys[r.Intn(2)]})
		}
		l = append(l, c)
	}
	return l
}
