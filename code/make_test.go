package code_test

import (
	"encoding/hex"
	"fmt"
	"math"
	"math/rand"
	"reflect"
	"strings"
	"testing"

	"conciliator/api"
)

// What the tests make values, components, entries and bytes of, and hold against what is answered.

func null() api.Val                    { return api.Val{} }
func boolean(n int64) api.Val          { return api.Val{Kind: api.Bool, N: n} }
func number(n int64) api.Val           { return api.Val{Kind: api.Int, N: n} }
func txt(s string) api.Val             { return api.Val{Kind: api.Text, S: s} }
func list(l ...api.Val) api.Val        { return api.Val{Kind: api.List, L: l} }
func object(o ...api.Field) api.Val    { return api.Val{Kind: api.Obj, O: o} }
func at(k string, v api.Val) api.Field { return api.Field{Key: k, V: v} }

func way(p ...api.Step) []api.Step { return p }
func nth(i int) api.Step           { return api.Step{List: true, I: i} }
func key(k string) api.Step        { return api.Step{Key: k} }

func add(n int64) api.Comp             { return api.Comp{Kind: api.Add, N: n} }
func put(k string, v api.Val) api.Comp { return api.Comp{Kind: api.Put, Key: k, V: v} }
func del(k string) api.Comp            { return api.Comp{Kind: api.Del, Key: k} }
func ins(i int, v api.Val) api.Comp    { return api.Comp{Kind: api.Ins, I: i, V: v} }
func rem(i int) api.Comp               { return api.Comp{Kind: api.Rem, I: i} }
func set(i int, v api.Val) api.Comp    { return api.Comp{Kind: api.Set, I: i, V: v} }
func move(i, j int) api.Comp           { return api.Comp{Kind: api.Move, I: i, J: j} }
func tins(i int, s string) api.Comp    { return api.Comp{Kind: api.Tins, I: i, S: s} }
func tdel(i int, n int64) api.Comp     { return api.Comp{Kind: api.Tdel, I: i, N: n} }

func ops(l ...api.Comp) []api.Comp { return l }

// path is a component at a path.
func path(c api.Comp, p ...api.Step) api.Comp {
	c.Path = p
	return c
}

func create(v api.Val) api.Entry    { return api.Entry{Kind: api.Create, Src: 1, Seq: 2, V: v} }
func edit(op ...api.Comp) api.Entry { return api.Entry{Kind: api.Edit, Src: 3, Seq: 4, Op: op} }
func ends() api.Entry               { return api.Entry{Kind: api.Delete, Src: 5, Seq: 6} }
func from(src, seq uint32) func(api.Entry) api.Entry {
	return func(e api.Entry) api.Entry {
		e.Src, e.Seq = src, seq
		return e
	}
}

// hx is bytes by their digits, base 16; what stands between ' and ' is taken as it is.
func hx(s string) []byte {
	var b []byte
	for i, part := range strings.Split(s, "'") {
		if i%2 == 1 {
			b = append(b, part...)
			continue
		}
		c, err := hex.DecodeString(strings.ReplaceAll(part, " ", ""))
		if err != nil {
			panic(err)
		}
		b = append(b, c...)
	}
	return b
}

// behind is one list, and another one behind it.
func behind[T any](a []T, b ...T) []T {
	var all []T
	return append(append(all, a...), b...)
}

// deep is a value so many deep; nothing stands at its bottom.
func deep(n int) api.Val {
	v := list()
	for i := range n {
		if i%2 == 0 {
			v = list(v)
		} else {
			v = object(at("", v))
		}
	}
	return v
}

// weighing are values of that weight, each made otherwise; all but the last are of as few bytes as can be.
func weighing(n int) []api.Val {
	return []api.Val{
		txt(strings.Repeat("x", n-1)),
		list(make([]api.Val, n-1)...),
		object(at(strings.Repeat("k", n-2), null())),
		list(txt(strings.Repeat("\u20ac", 1000)), txt(strings.Repeat("x", n-3003))),
		object(at("a", number(1)), at("b", list(txt(strings.Repeat("x", n-6))))),
	}
}

// oddValues are values that are not sound.
func oddValues() []api.Val {
	return []api.Val{
		{Kind: 6}, {Kind: 255},
		{N: 1}, {S: "a"}, {L: []api.Val{{}}}, {O: []api.Field{{}}},
		boolean(2), boolean(-1), {Kind: api.Bool, S: "a"}, {Kind: api.Bool, L: []api.Val{{}}},
		{Kind: api.Int, S: "a"}, {Kind: api.Int, O: []api.Field{{}}},
		{Kind: api.Text, N: 1}, {Kind: api.Text, L: []api.Val{{}}}, txt("\xff"), txt("a\xed\xa0\x80"), txt("\xe2\x82"),
		{Kind: api.List, N: 1}, {Kind: api.List, S: "a"}, {Kind: api.List, O: []api.Field{{}}},
		{Kind: api.Obj, N: 1}, {Kind: api.Obj, S: "a"}, {Kind: api.Obj, L: []api.Val{{}}},
		object(at("b", null()), at("a", null())), object(at("a", null()), at("a", null())), object(at("\x80", null())),
	}
}

// oddComps are components that are not sound, though no field speaks but those of their kinds.
func oddComps() []api.Comp {
	l := ops(
		rem(-1), move(-1, 0), move(0, -1), ins(-1, null()), set(math.MinInt, null()), tins(-1, "x"), tdel(-1, 1),
		tdel(0, 0), tdel(0, -1), tdel(0, math.MinInt64), tins(0, ""), tins(0, "\xff"), put("\xc3", null()), del("a\x80"),
		path(add(1), nth(-1)), path(add(1), key("\xe2\x82")), path(add(1), make([]api.Step, 16)...), path(add(1), make([]api.Step, 255)...),
		put("k", deep(16)), path(ins(0, deep(15)), nth(0)), set(0, txt(strings.Repeat("x", 20000))),
	)
	for _, v := range oddValues() {
		l = append(l, put("k", v), ins(0, v), set(0, list(v)))
	}
	return l
}

// ordinary is a sound component of each of the nine kinds.
func ordinary() []api.Comp {
	return ops(
		add(2), put("k", txt("x")), del("k"),
		ins(1, txt("x")), rem(1), set(1, txt("x")), move(1, 2),
		tins(1, "xy"), tdel(1, 2),
	)
}

// edges are numbers at the ends of what there is.
var edges = []int64{0, 1, -1, 2, 255, 256, -256, 1<<31 - 1, 1 << 31, -1 << 31, 1 << 32, 1 << 62, math.MaxInt64, math.MinInt64, math.MaxInt64 - 1}

// texts are keys that rise, too.
var texts = []string{"", "\x00", "a", "ab", strings.Repeat("x", 258), "\u00e9", "\u20ac\U0001f600"}

// chance makes a sound value, with others in it.
func chance(r *rand.Rand, deep int) api.Val {
	switch k := uint8(r.Intn(6)); k {
	case api.Bool:
		return boolean(r.Int63n(2))
	case api.Int:
		return number(edges[r.Intn(len(edges))])
	case api.Text:
		return txt(texts[r.Intn(len(texts))] + texts[r.Intn(4)])
	case api.List:
		v := list()
		for range r.Intn(4) * min(deep, 1) {
			v.L = append(v.L, chance(r, deep-1))
		}
		return v
	case api.Obj:
		v := object()
		for _, k := range texts {
			if deep > 0 && r.Intn(3) == 0 {
				v.O = append(v.O, at(k, chance(r, deep-1)))
			}
		}
		return v
	}
	return null()
}

// chanceComp makes a sound component.
func chanceComp(r *rand.Rand) api.Comp {
	i, j := int(edges[r.Intn(len(edges))]&math.MaxInt64), int(edges[r.Intn(len(edges))]&math.MaxInt64)
	some, v := texts[r.Intn(len(texts))], chance(r, 2)
	c := ops(add(edges[r.Intn(len(edges))]), put(some, v), del(some), ins(i, v), rem(i), set(i, v), move(i, j), tins(i, some+"z"), tdel(i, int64(j)|1))[r.Intn(9)]
	for range r.Intn(4) {
		c.Path = append(c.Path, []api.Step{nth(i), key(some)}[r.Intn(2)])
	}
	return c
}

// chanceEntry makes a sound entry.
func chanceEntry(r *rand.Rand) api.Entry {
	e := api.Entry{Kind: uint8(1 + r.Intn(3)), Src: r.Uint32(), Seq: r.Uint32() >> r.Intn(32)}
	switch e.Kind {
	case api.Create:
		e.V = chance(r, 4)
	case api.Edit:
		for range r.Intn(5) {
			e.Op = append(e.Op, chanceComp(r))
		}
	}
	return e
}

// twinValue is a copy made for the tests alone, in memory of its own.
func twinValue(v api.Val) api.Val {
	w := api.Val{Kind: v.Kind, N: v.N, S: strings.Clone(v.S)}
	for _, x := range v.L {
		w.L = append(w.L, twinValue(x))
	}
	for _, f := range v.O {
		w.O = append(w.O, at(strings.Clone(f.Key), twinValue(f.V)))
	}
	return w
}

func twin(e api.Entry) api.Entry {
	f := api.Entry{Kind: e.Kind, Src: e.Src, Seq: e.Seq, V: twinValue(e.V)}
	for _, c := range e.Op {
		var p []api.Step
		for _, s := range c.Path {
			p = append(p, api.Step{List: s.List, I: s.I, Key: strings.Clone(s.Key)})
		}
		c.Path, c.Key, c.S, c.V = p, strings.Clone(c.Key), strings.Clone(c.S), twinValue(c.V)
		f.Op = append(f.Op, c)
	}
	return f
}

// alike says that all fields are the same; lists that are nil and empty ones are, too.
func alike(a, b api.Entry) bool { return reflect.DeepEqual(twin(a), twin(b)) }

func alikeValues(v, w api.Val) bool { return reflect.DeepEqual(twinValue(v), twinValue(w)) }

// brief is the beginning of some bytes, to be told.
func brief(b []byte) string {
	if len(b) > 60 {
		return hex.EncodeToString(b[:60]) + ".."
	}
	return hex.EncodeToString(b)
}

// tell is the beginning of what something is, as a text.
func tell(x any) string {
	s := fmt.Sprintf("%+v", x)
	return s[:min(len(s), 300)]
}

// said stops a test whose own making is wrong.
func said(t *testing.T, right bool) {
	t.Helper()
	if !right {
		t.Fatal("the test itself is wrong")
	}
}
