package seq_test

import (
	"strings"

	"conciliator/api"
)

// What the tests make lists and components of.

func ins(i int, s string) api.Comp      { return api.Comp{Kind: api.Ins, I: i, V: txt(s)} }
func rem(i int) api.Comp                { return api.Comp{Kind: api.Rem, I: i} }
func set(i int, s string) api.Comp      { return api.Comp{Kind: api.Set, I: i, V: txt(s)} }
func move(i, j int) api.Comp            { return api.Comp{Kind: api.Move, I: i, J: j} }
func comps(l ...api.Comp) []api.Comp    { return l }
func number(n int64) api.Val            { return api.Val{Kind: api.Int, N: n} }
func txt(s string) api.Val              { return api.Val{Kind: api.Text, S: s} }
func list(l ...api.Val) api.Val         { return api.Val{Kind: api.List, L: l} }
func object(o ...api.Field) api.Val     { return api.Val{Kind: api.Obj, O: o} }
func at(k string, v api.Val) api.Field  { return api.Field{Key: k, V: v} }
func nth(i int) api.Step                { return api.Step{List: true, I: i} }
func key(k string) api.Step             { return api.Step{Key: k} }
func kind(k uint8, c api.Comp) api.Comp { c.Kind = k; return c }
func place(i int, c api.Comp) api.Comp  { c.I = i; return c }
func to(j int, c api.Comp) api.Comp     { c.J = j; return c }
func gives(v api.Val, c api.Comp) api.Comp {
	c.V = v
	return c
}

// row is a list of texts of one byte each.
func row(s string) []api.Val {
	var l []api.Val
	for i := range len(s) {
		l = append(l, txt(s[i:i+1]))
	}
	return l
}

// word is such a list as one text.
func word(l []api.Val) string {
	var s strings.Builder
	for _, v := range l {
		s.WriteString(v.S)
	}
	return s.String()
}

// listKinds are the kinds of which this layer speaks.
var listKinds = []uint8{api.Ins, api.Rem, api.Set, api.Move}

// otherKinds are all kinds but those.
func otherKinds() []uint8 {
	var all []uint8
	for k := range 256 {
		if k < int(api.Ins) || k > int(api.Move) {
			all = append(all, uint8(k))
		}
	}
	return all
}

// laden is a component with something in all fields of which its kind does not
// speak, sound and not; its lists lie ahead of others in their memory.
func laden(c api.Comp) api.Comp {
	path := []api.Step{key("a"), nth(3), {List: true, I: -1, Key: "\xff"}, key("behind")}
	c.Path, c.Key, c.N, c.S = path[:3], "k\xfe", -7, "s\xc3"
	if c.Kind != api.Move {
		c.J = 1
	}
	if c.Kind != api.Ins && c.Kind != api.Set {
		c.V = rich()
	}
	return c
}

// rich is a value with something everywhere, sound and not; its lists lie ahead of others, too.
func rich() api.Val {
	vals := []api.Val{txt("x"), number(5), {Kind: 9, N: -3, S: "\xc0", L: []api.Val{number(1)}, O: []api.Field{}}, txt("behind")}
	v := list(vals[:3]...)
	v.L = vals[:3]
	v.O = []api.Field{at("b", list(txt("y"), object(at("", txt("z"))))), at("a", number(2)), at("behind", number(3))}[:2]
	return v
}

// twin is a copy made for the tests alone, in memory of its own.
func twin(c api.Comp) api.Comp {
	var p []api.Step
	for _, s := range c.Path {
		p = append(p, api.Step{List: s.List, I: s.I, Key: strings.Clone(s.Key)})
	}
	c.Path, c.Key, c.S, c.V = p, strings.Clone(c.Key), strings.Clone(c.S), twinValue(c.V)
	return c
}

func twinValue(v api.Val) api.Val {
	w := api.Val{Kind: v.Kind, N: v.N, S: strings.Clone(v.S), L: twinList(v.L)}
	for _, f := range v.O {
		w.O = append(w.O, at(strings.Clone(f.Key), twinValue(f.V)))
	}
	return w
}

func twinList(l []api.Val) []api.Val {
	var out []api.Val
	for _, v := range l {
		out = append(out, twinValue(v))
	}
	return out
}

func twins(l []api.Comp) []api.Comp {
	var out []api.Comp
	for _, c := range l {
		out = append(out, twin(c))
	}
	return out
}

// reaching are components of each kind at each place of a list of n, and from one
// ahead of it up to two beyond.
func reaching(n int, s string) []api.Comp {
	var all []api.Comp
	for i := -1; i <= n+2; i++ {
		all = append(all, ins(i, s), rem(i), set(i, s))
		for j := -1; j <= n+2; j++ {
			all = append(all, move(i, j))
		}
	}
	return all
}

// possible are all components that may be done to a list of n, by what the chapter says.
func possible(n int, s string) []api.Comp {
	var all []api.Comp
	for i := range n {
		all = append(all, ins(i, s), rem(i), set(i, s))
		for j := range n {
			all = append(all, move(i, j))
		}
	}
	return append(all, ins(n, s))
}
