package comp_test

import (
	"math"
	"math/rand"
	"reflect"
	"testing"

	"conciliator/api"
	"conciliator/comp"
)

// makes says that Do makes this of a value, and Check tells no error.
func makes(t *testing.T, v api.Val, c api.Comp, want api.Val) {
	t.Helper()
	got, e := comp.Do(v, c)
	if f := comp.Check(v, c); e != api.OK || f != api.OK || !reflect.DeepEqual(twinValue(got), twinValue(want)) {
		t.Errorf("Do(%+v, %+v) is %+v, %d (Check: %d), not %+v", v, c, got, e, f, want)
	}
}

// everywhere says so at no path, and where the value stands in others.
func everywhere(t *testing.T, v api.Val, c api.Comp, want api.Val) {
	t.Helper()
	makes(t, v, c, want)
	makes(t, list(v, v), path(c, nth(0)), list(want, v))
	makes(t, list(v, v), path(c, nth(1)), list(v, want))
	in := func(x api.Val) api.Val { return object(at("", v), at("a", list(null(), x)), at("b", v)) }
	makes(t, in(v), path(c, key("a"), nth(1)), in(want))
	for n := 1; n <= 10; n++ {
		around, p := nest(v, n)
		after, _ := nest(want, n)
		makes(t, around, path(c, p...), after)
	}
}

// The document's examples.
func TestDoExamples(t *testing.T) {
	v := object(at("a", number(1)))
	makes(t, v, put("b", number(2)), object(at("a", number(1)), at("b", number(2))))
	makes(t, v, path(add(2), key("a")), object(at("a", number(3))))
}

func TestDoAdd(t *testing.T) {
	const most, least = math.MaxInt64, math.MinInt64
	rows := []struct{ n, by, want int64 }{
		{0, 0, 0}, {1, 2, 3}, {1, -2, -1}, {-1, 1, 0}, {7, 0, 7}, {1 << 40, 1 << 40, 1 << 41},
		{0, most, most}, {0, least, least}, {most, 0, most}, {least, 0, least}, {most, least, -1},
		{most, 1, least}, {least, -1, most}, {most, most, -2}, {least, least, 0}, {1, most, least}, {-1, least, most},
		{most - 1, 1, most}, {least + 1, -1, least}, {-2, most, most - 2},
	}
	for _, r := range rows {
		everywhere(t, number(r.n), add(r.by), number(r.want))
	}
}

func TestDoPut(t *testing.T) {
	b, d := at("b", txt("x")), at("d", list(null()))
	for _, v := range append(everyKind(), deep(5)) {
		rows := []struct {
			o    api.Val
			k    string
			want api.Val
		}{
			{object(), "", object(at("", v))},
			{object(), "k", object(at("k", v))},
			{object(b, d), "b", object(at("b", v), d)}, // it is there
			{object(b, d), "d", object(b, at("d", v))},
			{object(b), "b", object(at("b", v))},
			{object(b, d), "", object(at("", v), b, d)}, // ahead
			{object(b, d), "a", object(at("a", v), b, d)},
			{object(b, d), "B", object(at("B", v), b, d)},
			{object(b, d), "ax", object(at("ax", v), b, d)},
			{object(b, d), "b\x00", object(b, at("b\x00", v), d)}, // between
			{object(b, d), "c", object(b, at("c", v), d)},
			{object(b, d), "cz", object(b, at("cz", v), d)},
			{object(b, d), "dd", object(b, d, at("dd", v))}, // behind
			{object(b, d), "e", object(b, d, at("e", v))},
			{object(b, d), "\u00e9", object(b, d, at("\u00e9", v))},
		}
		for _, r := range rows {
			everywhere(t, r.o, put(r.k, v), r.want)
		}
	}
}

func TestDoDel(t *testing.T) {
	a, b, c := at("", number(1)), at("b", txt("x")), at("c", list(null()))
	everywhere(t, object(a), del(""), object())
	everywhere(t, object(a, b, c), del(""), object(b, c))
	everywhere(t, object(a, b, c), del("b"), object(a, c))
	everywhere(t, object(a, b, c), del("c"), object(a, b))
}

func TestDoLists(t *testing.T) {
	a, b, c := number(1), list(txt("x")), object(at("k", null()))
	for _, v := range everyKind() {
		everywhere(t, list(), ins(0, v), list(v))
		everywhere(t, list(a), ins(0, v), list(v, a))
		everywhere(t, list(a), ins(1, v), list(a, v))
		everywhere(t, list(a, b, c), ins(0, v), list(v, a, b, c))
		everywhere(t, list(a, b, c), ins(2, v), list(a, b, v, c))
		everywhere(t, list(a, b, c), ins(3, v), list(a, b, c, v))
		everywhere(t, list(a), set(0, v), list(v))
		everywhere(t, list(a, b, c), set(0, v), list(v, b, c))
		everywhere(t, list(a, b, c), set(1, v), list(a, v, c))
		everywhere(t, list(a, b, c), set(2, v), list(a, b, v))
	}
	everywhere(t, list(a), rem(0), list())
	everywhere(t, list(a, b, c), rem(0), list(b, c))
	everywhere(t, list(a, b, c), rem(1), list(a, c))
	everywhere(t, list(a, b, c), rem(2), list(a, b))
	everywhere(t, list(a), move(0, 0), list(a))
	everywhere(t, list(a, b, c), move(1, 1), list(a, b, c))
	everywhere(t, list(a, b, c), move(0, 1), list(b, a, c))
	everywhere(t, list(a, b, c), move(0, 2), list(b, c, a))
	everywhere(t, list(a, b, c), move(2, 0), list(c, a, b))
	everywhere(t, list(a, b, c), move(2, 1), list(a, c, b))
}

func TestDoTexts(t *testing.T) {
	rows := []struct {
		s    string
		c    api.Comp
		want string
	}{
		{"", tins(0, "x"), "x"},
		{"ab", tins(0, "xy"), "xyab"},
		{"ab", tins(1, "xy"), "axyb"},
		{"ab", tins(2, "xy"), "abxy"},
		{"\u20acb", tins(1, "\U0001f600"), "\u20ac\U0001f600b"}, // characters, not bytes
		{"\u20acb", tins(2, "\x00"), "\u20acb\x00"},
		{"a", tdel(0, 1), ""},
		{"abc", tdel(0, 1), "bc"},
		{"abc", tdel(1, 1), "ac"},
		{"abc", tdel(2, 1), "ab"},
		{"abc", tdel(0, 3), ""},
		{"abc", tdel(1, 2), "a"},
		{"a\u20ac\U0001f600b", tdel(1, 2), "ab"},
	}
	for _, r := range rows {
		everywhere(t, txt(r.s), r.c, txt(r.want))
	}
}

// A put to a whole object, one behind the other: keys rise, whatever comes first.
func TestDoPutsOfMany(t *testing.T) {
	keys := []string{"m", "a", "z", "", "mm", "b", "\u00e9", "A", "y", "m\x00"}
	v := object()
	for i, k := range keys {
		var e api.Errno
		v, e = comp.Do(v, put(k, number(int64(i))))
		if e != api.OK || len(v.O) != i+1 {
			t.Fatalf("%+v, %d", v, e)
		}
	}
	want := object(at("", number(3)), at("A", number(7)), at("a", number(1)), at("b", number(5)), at("m", number(0)), at("m\x00", number(9)), at("mm", number(4)), at("y", number(8)), at("z", number(2)), at("\u00e9", number(6)))
	if !reflect.DeepEqual(twinValue(v), want) {
		t.Errorf("%+v", v)
	}
	for i, k := range keys {
		v, _ = comp.Do(v, del(k))
		if len(v.O) != len(keys)-1-i {
			t.Fatalf("%+v", v)
		}
	}
}

// Do has no bound on what it makes: one that is too deep, or too heavy, is the documents' matter.
func TestDoHasNoBound(t *testing.T) {
	v := list(make([]api.Val, 30000)...)
	w, e := comp.Do(v, ins(30000, list(make([]api.Val, 19999)...)))
	if e != api.OK || len(w.L) != 30001 || len(w.L[30000].L) != 19999 {
		t.Errorf("%d, %d", len(w.L), e)
	}
	makes(t, list(deep(30)), ins(1, deep(15)), list(deep(30), deep(15)))
	ahead, p := nest(object(), 14)
	after, _ := nest(object(at("k", number(1))), 14)
	makes(t, list(deep(30), ahead), path(put("k", number(1)), append(way(nth(1)), p...)...), list(deep(30), after))
}

// What is not sound goes over as it is; keys that fall, or are the same, are asked as val.Field asks them.
func TestDoToOddOnes(t *testing.T) {
	fields := []api.Field{at("c", number(1)), at("a", number(2)), at("a", number(3)), at("\xff", rich())}
	v := api.Val{Kind: api.Obj, N: -3, S: "\xc0", L: rich().L, O: fields}
	with := func(o ...api.Field) api.Val { return api.Val{Kind: v.Kind, N: v.N, S: v.S, L: v.L, O: o} }
	x := number(9)
	everywhere(t, v, put("a", x), with(at("a", x), fields[0], fields[1], fields[2], fields[3])) // the first key is not below it
	everywhere(t, v, put("c", x), with(at("c", x), fields[1], fields[2], fields[3]))
	everywhere(t, v, put("d", x), with(fields[0], fields[1], fields[2], at("d", x), fields[3]))
	everywhere(t, v, del("c"), with(fields[1:]...))
	refuses(t, v, del("a"), api.ErrKey)
	twice := object(at("a", number(1)), at("a", number(2)))
	everywhere(t, twice, put("a", x), object(at("a", x), at("a", number(2))))
	everywhere(t, twice, del("a"), object(at("a", number(2))))

	v.Kind = api.Int
	w := v
	w.N = 4
	everywhere(t, v, add(7), w)
	v.Kind, w = api.Text, v
	w.Kind, w.S = api.Text, "x\xc0"
	everywhere(t, v, tins(0, "x"), w)
	v.Kind, w = api.List, v
	w.Kind, w.L = api.List, v.L[1:]
	everywhere(t, v, rem(0), w)
}

// All that may be done anywhere in a value, held against what the chapters say.
func TestDoAnywhere(t *testing.T) {
	all, done := attempts(), map[uint8]int{}
	for _, p := range paths(world()) {
		for _, c := range all {
			c := path(c, p...)
			want, e := plainDo(world(), c)
			if e == api.OK {
				makes(t, world(), c, want)
				done[c.Kind]++
			}
		}
	}
	for k := api.Add; k <= api.Tdel; k++ {
		if done[k] < 8 {
			t.Errorf("of kind %d %d were done", k, done[k])
		}
	}
	r := rand.New(rand.NewSource(4))
	for range 100000 {
		v := chance(r, 3)
		c := chanceComp(r, v)
		if want, e := plainDo(v, c); e == api.OK {
			makes(t, v, c, want)
		}
	}
}
