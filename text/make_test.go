package text_test

import (
	"strings"

	"conciliator/api"
)

// What the tests make texts and components of.

func tins(i int, s string) api.Comp      { return api.Comp{Kind: api.Tins, I: i, S: s} }
func tdel(i int, n int64) api.Comp       { return api.Comp{Kind: api.Tdel, I: i, N: n} }
func comps(l ...api.Comp) []api.Comp     { return l }
func number(n int64) api.Val             { return api.Val{Kind: api.Int, N: n} }
func txt(s string) api.Val               { return api.Val{Kind: api.Text, S: s} }
func list(l ...api.Val) api.Val          { return api.Val{Kind: api.List, L: l} }
func object(o ...api.Field) api.Val      { return api.Val{Kind: api.Obj, O: o} }
func at(k string, v api.Val) api.Field   { return api.Field{Key: k, V: v} }
func nth(i int) api.Step                 { return api.Step{List: true, I: i} }
func key(k string) api.Step              { return api.Step{Key: k} }
func kind(k uint8, c api.Comp) api.Comp  { c.Kind = k; return c }
func place(i int, c api.Comp) api.Comp   { c.I = i; return c }
func many(n int64, c api.Comp) api.Comp  { c.N = n; return c }
func says(s string, c api.Comp) api.Comp { c.S = s; return c }

// otherKinds are all kinds but Tins and Tdel.
func otherKinds() []uint8 {
	var all []uint8
	for k := range 256 {
		if uint8(k) != api.Tins && uint8(k) != api.Tdel {
			all = append(all, uint8(k))
		}
	}
	return all
}

// laden is a component with something in all fields of which neither kind speaks,
// sound and not; its lists lie ahead of others in their memory.
func laden(c api.Comp) api.Comp {
	path := []api.Step{key("a"), nth(3), {List: true, I: -1, Key: "\xff"}, key("behind")}
	vals := []api.Val{txt("x"), number(5), {Kind: 9, N: -3, S: "\xc0", L: []api.Val{number(1)}, O: []api.Field{}}, txt("behind")}
	c.Path, c.Key, c.J = path[:3], "k\xfe", -7
	c.V = list(vals[:3]...)
	c.V.L = vals[:3]
	c.V.O = []api.Field{at("b", list(txt("y"), object(at("", txt("z"))))), at("a", number(2)), at("behind", number(3))}[:2]
	return c
}

// twin is a copy made for the tests alone, in memory of its own.
func twin(c api.Comp) api.Comp {
	var p []api.Step
	for _, s := range c.Path {
		p = append(p, api.Step{List: s.List, I: s.I, Key: strings.Clone(s.Key)})
	}
	c.Path, c.Key, c.S, c.V = p, strings.Clone(c.Key), strings.Clone(c.S), twinValue(c.V)
	return c
}

func twinValue(v api.Val) api.Val {
	w := api.Val{Kind: v.Kind, N: v.N, S: strings.Clone(v.S)}
	for _, x := range v.L {
		w.L = append(w.L, twinValue(x))
	}
	for _, f := range v.O {
		w.O = append(w.O, at(strings.Clone(f.Key), twinValue(f.V)))
	}
	return w
}

func twins(l []api.Comp) []api.Comp {
	var out []api.Comp
	for _, c := range l {
		out = append(out, twin(c))
	}
	return out
}

// byteRange is from which byte up to which one.
type byteRange struct{ from, to byte }

// forms are the forms that characters have as bytes, by Unicode's table of them.
var forms = [][]byteRange{
	{{0x00, 0x7f}},
	{{0xc2, 0xdf}, {0x80, 0xbf}},
	{{0xe0, 0xe0}, {0xa0, 0xbf}, {0x80, 0xbf}},
	{{0xe1, 0xec}, {0x80, 0xbf}, {0x80, 0xbf}},
	{{0xed, 0xed}, {0x80, 0x9f}, {0x80, 0xbf}},
	{{0xee, 0xef}, {0x80, 0xbf}, {0x80, 0xbf}},
	{{0xf0, 0xf0}, {0x90, 0xbf}, {0x80, 0xbf}, {0x80, 0xbf}},
	{{0xf1, 0xf3}, {0x80, 0xbf}, {0x80, 0xbf}, {0x80, 0xbf}},
	{{0xf4, 0xf4}, {0x80, 0x8f}, {0x80, 0xbf}, {0x80, 0xbf}},
}

// row is a text, character by character, read by that table.
func row(s string) []string {
	var out []string
	for s != "" {
		n := 1 // a byte that is no part of one stands alone
		for _, f := range forms {
			if fits(s, f) {
				n = len(f)
			}
		}
		out = append(out, s[:n])
		s = s[n:]
	}
	return out
}

func fits(s string, form []byteRange) bool {
	for i, r := range form {
		if i >= len(s) || s[i] < r.from || s[i] > r.to {
			return false
		}
	}
	return true
}

// oddBytes are bytes at the edges of that table.
const oddBytes = "\x00a\x7f\x80\x8f\x90\x9f\xa0\xbf\xc0\xc1\xc2\xdf\xe0\xe1\xec\xed\xee\xef\xf0\xf1\xf3\xf4\xf5\xfe\xff"

// shortTexts ranges over all texts of at most so many of these bytes.
func shortTexts(bytes string, most int) func(yield func(string) bool) {
	return func(yield func(string) bool) {
		layer := []string{""}
		for n := 0; ; n++ {
			var next []string
			for _, s := range layer {
				if !yield(s) {
					return
				}
				for i := range len(bytes) * min(1, most-n) {
					next = append(next, s+bytes[i:i+1])
				}
			}
			if layer = next; n == most {
				return
			}
		}
	}
}
