package comp_test

import (
	"math"
	"math/rand"
	"reflect"
	"runtime/debug"
	"strings"
	"testing"
	"unsafe"

	"conciliator/api"
	"conciliator/comp"
)

// blocks are the places of all memory that a component has, behind its lists' lengths too.
func blocks(c api.Comp, out []unsafe.Pointer) []unsafe.Pointer {
	out = append(out, letters(c.Key), letters(c.S), unsafe.Pointer(unsafe.SliceData(c.Path)))
	for _, s := range c.Path {
		out = append(out, letters(s.Key))
	}
	return valueBlocks(c.V, out)
}

func valueBlocks(v api.Val, out []unsafe.Pointer) []unsafe.Pointer {
	out = append(out, letters(v.S), unsafe.Pointer(unsafe.SliceData(v.L)), unsafe.Pointer(unsafe.SliceData(v.O)))
	for _, x := range v.L {
		out = valueBlocks(x, out)
	}
	for _, f := range v.O {
		out = valueBlocks(f.V, append(out, letters(f.Key)))
	}
	return out
}

func letters(s string) unsafe.Pointer {
	if s == "" {
		return nil
	}
	return unsafe.Pointer(unsafe.StringData(s))
}

// nowhereAtAll is where all lists are that have no memory.
var nowhereAtAll = unsafe.Pointer(unsafe.SliceData(make([]api.Val, 0)))

// apart says that no two of these are the same place.
func apart(all []unsafe.Pointer) bool {
	had := map[unsafe.Pointer]bool{}
	for _, p := range all {
		if had[p] {
			return false
		}
		had[p] = p != nil && p != nowhereAtAll
	}
	return true
}

// nothingBehind says that nothing lies behind these lists' lengths.
func nothingBehind(p []api.Step, l []api.Val, o []api.Field) bool {
	for _, s := range p[len(p):cap(p)] {
		if s != (api.Step{}) {
			return false
		}
	}
	for _, v := range l[len(l):cap(l)] {
		if !reflect.DeepEqual(v, api.Val{}) {
			return false
		}
	}
	for _, f := range o[len(o):cap(o)] {
		if !reflect.DeepEqual(f, api.Field{}) {
			return false
		}
	}
	return true
}

func TestCopyIsNewMemory(t *testing.T) {
	for _, c := range many() {
		c := twin(c)
		all := blocks(c, nil)
		if !apart(all) {
			t.Fatal("the test itself shares memory")
		}
		if !apart(blocks(comp.Copy(c), blocks(comp.Copy(c), all))) {
			t.Errorf("Copy(%+v) shares memory", c)
		}
	}
}

// Where lists of one that is handed in share memory, those of the copy stand apart.
func TestCopysListsStandApart(t *testing.T) {
	k, v := strings.Clone("k"), twinValue(rich())
	c := path(put(k, list(v, v, object(at(k, v), at(k, v)))), key(k), key(k))
	c.S = k
	if !apart(blocks(comp.Copy(c), nil)) {
		t.Error("two lists of a copy share memory")
	}
}

// laid are values, and what may be done to them, with much memory at each place: on the way, beside it, where it leads, and in V.
func laid() []struct {
	v api.Val
	c api.Comp
} {
	x := list(txt("new"), object(at("p", list(txt("q")))))
	l := list(txt("ab"), list(txt("cd")), object(at("ef", txt("gh"))))
	o := object(at("a", txt("ij")), at("c", list(txt("kl"), txt("mn"))), at("d", object(at("op", txt("qr")))))
	all := []struct {
		v api.Val
		c api.Comp
	}{
		{number(1), add(2)},
		{o, put("b", x)}, {o, put("c", x)}, {o, put("", x)}, {o, put("e", x)}, {object(), put("new", x)},
		{o, del("a")}, {o, del("c")}, {o, del("d")},
		{l, ins(0, x)}, {l, ins(2, x)}, {l, ins(3, x)}, {list(), ins(0, x)},
		{l, rem(0)}, {l, rem(1)}, {l, rem(2)},
		{l, set(0, x)}, {l, set(1, x)}, {l, set(2, x)},
		{l, move(0, 2)}, {l, move(2, 0)}, {l, move(1, 1)},
		{txt("ab"), tins(0, "new")}, {txt("ab"), tins(1, "new")}, {txt("ab"), tins(2, "new")}, {txt(""), tins(0, "new")},
		{txt("ab"), tdel(0, 1)}, {txt("ab"), tdel(1, 1)}, {txt("ab"), tdel(0, 2)},
	}
	for _, r := range all[:len(all):len(all)] {
		in := object(at("l", l), at("way", list(o, r.v, l)), at("x", txt("st")))
		r.v, r.c.Path = in, way(key("way"), nth(1))
		all = append(all, r)
	}
	return all
}

func TestDoIsNewMemory(t *testing.T) {
	for _, r := range laid() {
		v, c := twinValue(r.v), twin(r.c)
		all := valueBlocks(v, blocks(c, nil))
		if !apart(all) {
			t.Fatal("the test itself shares memory")
		}
		one, e := comp.Do(v, c)
		two, f := comp.Do(v, c)
		if e != api.OK || f != api.OK || !apart(valueBlocks(two, valueBlocks(one, all))) {
			t.Errorf("Do(%+v, %+v) shares memory", v, c)
		}
	}
}

// Where what is handed in shares memory, the answer's lists stand apart.
func TestDosListsStandApart(t *testing.T) {
	l := twinValue(list(txt("x"), object(at("k", txt("y")))))
	o := object(at("k", l), at("m", l))
	v := list(l, o, l, o, l)
	all := comps(ins(0, l), ins(2, o), set(1, l), rem(0), move(0, 3), path(put("k", o), nth(1)), path(put("l", l), nth(3)), path(del("k"), nth(1)), path(tins(1, "z"), nth(1), key("m"), nth(0)))
	for _, c := range all {
		got, e := comp.Do(v, c)
		if e != api.OK || !apart(valueBlocks(got, nil)) {
			t.Errorf("Do of %+v: %d, or two lists share memory", c, e)
		}
	}
}

// roomy lays each list of a value ahead of others in its memory.
func roomy(v api.Val) api.Val {
	l, o := v.L, v.O
	v.L, v.O = nil, nil
	for _, x := range l {
		v.L = append(v.L, roomy(x))
	}
	for _, f := range o {
		v.O = append(v.O, at(f.Key, roomy(f.V)))
	}
	v.L = append(v.L, txt("behind"), txt("behind"))[:len(v.L)]
	v.O = append(v.O, at("behind", null()), at("behind", null()))[:len(v.O)]
	return v
}

// stillBehind says that they lie there as they did.
func stillBehind(v api.Val) bool {
	ok := v.L[:len(v.L)+2][len(v.L)].S == "behind" && v.L[:len(v.L)+2][len(v.L)+1].S == "behind"
	ok = ok && v.O[:len(v.O)+2][len(v.O)].Key == "behind" && v.O[:len(v.O)+2][len(v.O)+1].Key == "behind"
	for _, x := range v.L {
		ok = ok && stillBehind(x)
	}
	for _, f := range v.O {
		ok = ok && stillBehind(f.V)
	}
	return ok
}

// emptyBehind says that nothing lies behind any list of a value.
func emptyBehind(v api.Val) bool {
	ok := nothingBehind(nil, v.L, v.O)
	for _, x := range v.L {
		ok = ok && emptyBehind(x)
	}
	for _, f := range v.O {
		ok = ok && emptyBehind(f.V)
	}
	return ok
}

// No call changes what it is handed, nor what lies behind its lists' lengths.
func TestNothingIsChanged(t *testing.T) {
	for _, r := range laid() {
		v, c := roomy(r.v), r.c
		c.V = roomy(c.V)
		c.Path = append(c.Path, key("behind"))[:len(c.Path)]
		vv, cc := twinValue(v), twin(c)
		comp.Sound(c)
		comp.Same(c, cc)
		comp.Check(v, c)
		w, _ := comp.Do(v, c)
		d := comp.Copy(c)
		_, _, _ = append(d.Path, key("z")), append(w.L, null()), append(w.O, at("z", null()))
		if !reflect.DeepEqual(twinValue(v), vv) || !reflect.DeepEqual(twin(c), cc) {
			t.Fatalf("changed: %+v, %+v", v, c)
		}
		if !stillBehind(v) || !stillBehind(c.V) || c.Path[:len(c.Path)+1][len(c.Path)].Key != "behind" {
			t.Fatalf("changed behind a list of %+v, %+v", v, c)
		}
		if !emptyBehind(w) || !emptyBehind(d.V) {
			t.Fatalf("handed out behind a list of %+v, %+v", w, d)
		}
	}
	r := rand.New(rand.NewSource(5))
	for range 20000 {
		v := chance(r, 3)
		c := chanceComp(r, v)
		vv, cc := twinValue(v), twin(c)
		comp.Check(v, c)
		comp.Do(v, c)
		comp.Copy(c)
		if !reflect.DeepEqual(twinValue(v), vv) || !reflect.DeepEqual(twin(c), cc) {
			t.Fatalf("changed: %+v, %+v", v, c)
		}
	}
}

// change changes all that is in a value.
func change(v *api.Val) {
	for i := range v.L {
		change(&v.L[i])
	}
	for i := range v.O {
		change(&v.O[i].V)
		v.O[i].Key += "z"
	}
	v.Kind, v.N, v.S = v.Kind+50, v.N+51, v.S+"z"
}

func changeComp(c *api.Comp) {
	for i := range c.Path {
		c.Path[i] = api.Step{List: !c.Path[i].List, I: 52, Key: "z"}
	}
	change(&c.V)
	c.Kind, c.Key, c.I, c.J, c.N, c.S = 53, "z", 54, 55, 56, "z"
}

// What is done to an answer leaves what was handed in as it was, and the other way round.
func TestAnswersStandAlone(t *testing.T) {
	for _, r := range laid() {
		v, c := twinValue(r.v), twin(r.c)
		got, _ := comp.Do(v, c)
		d := comp.Copy(c)
		change(&got)
		changeComp(&d)
		if !reflect.DeepEqual(v, twinValue(r.v)) || !reflect.DeepEqual(c, twin(r.c)) {
			t.Fatalf("a change of an answer of %+v came through", r.c)
		}
		got, _ = comp.Do(v, c)
		d = comp.Copy(c)
		want := twinValue(got)
		change(&v)
		changeComp(&c)
		if !reflect.DeepEqual(twinValue(got), want) || !reflect.DeepEqual(d, twin(r.c)) {
			t.Fatalf("a change of what was handed in came through: %+v", r.c)
		}
	}
	for k := range 256 {
		c := laden(uint8(k))
		d := comp.Copy(c)
		changeComp(&d)
		if !reflect.DeepEqual(twin(c), twin(laden(uint8(k)))) {
			t.Fatalf("a change of a copy of %+v came through", c)
		}
		d = comp.Copy(c)
		changeComp(&c)
		if !reflect.DeepEqual(twin(d), twin(laden(uint8(k)))) {
			t.Fatalf("a change of what was copied came through: %+v", d)
		}
	}
}

// No numbers, kinds and texts make a call panic.
func TestAnything(t *testing.T) {
	edges := []int{0, 1, 2, 3, 1<<31 - 1, 1 << 31, 1<<32 + 1, 1<<62 + 1, math.MaxInt - 1, math.MaxInt}
	for _, n := range edges[1:] {
		edges = append(edges, -n, ^n)
	}
	r := rand.New(rand.NewSource(6))
	some := func() int {
		if r.Intn(2) == 0 {
			return 0
		}
		return edges[r.Intn(len(edges))]
	}
	for range 300000 {
		v := chance(r, 2)
		c := chanceComp(r, v)
		c.I, c.J, c.N = some(), some(), int64(some())
		if r.Intn(8) == 0 {
			c.Path = append(c.Path, api.Step{List: r.Intn(2) == 0, I: some(), Key: texts[r.Intn(len(texts))]})
		}
		if r.Intn(8) == 0 {
			c.Kind = uint8(r.Intn(256))
		}
		sound := comp.Sound(c)
		_, e := comp.Do(v, c)
		if e != comp.Check(v, c) || sound != (e != api.ErrComp) || sound != plainSound(c) {
			t.Fatalf("%+v, %+v: %v, %d", v, c, sound, e)
		}
		if !comp.Same(comp.Copy(c), c) {
			t.Fatalf("%+v", c)
		}
	}
}

// asDeep says in how many lists and objects a value's innermost lies.
func asDeep(v api.Val) int {
	n := 0
	for ; len(v.L)+len(v.O) > 0; n++ {
		if len(v.L) > 0 {
			v = v.L[0]
		} else {
			v = v.O[0].V
		}
	}
	return n
}

// Each call ends, however deep a value lies in another or a component: a small stack stands in for one that outgrows a great one.
func TestVeryDeepValues(t *testing.T) {
	defer debug.SetMaxStack(debug.SetMaxStack(1 << 20))
	const most = 200000
	v := deep(most)
	for _, c := range append(ordinary(), api.Comp{}) {
		c.V = v
		d := comp.Copy(c)
		if asDeep(d.V) != most || !comp.Same(c, d) {
			t.Errorf("%d deep", asDeep(d.V))
		}
		if _, e := comp.Do(v, c); comp.Sound(c) || e != api.ErrComp || comp.Check(v, c) != e {
			t.Errorf("%d", e)
		}
	}
	rows := []struct {
		v, want api.Val
		c       api.Comp
	}{
		{list(v), list(v, number(1)), ins(1, number(1))},
		{list(v, v), list(v), rem(1)},
		{list(v, number(1)), list(v), rem(1)},
		{list(number(1), v), list(v, number(1)), move(1, 0)},
		{object(at("k", v)), object(at("k", v), at("m", null())), put("m", null())},
		{object(at("a", v), at("k", v)), object(at("k", v)), del("a")},
		{list(v, number(1)), list(v, number(3)), path(add(2), nth(1))},
		{list(v, txt("ab")), list(v, txt("b")), path(tdel(0, 1), nth(1))},
	}
	for _, r := range rows {
		got, e := comp.Do(r.v, r.c)
		if e != api.OK || comp.Check(r.v, r.c) != e || asDeep(got) != most+1 || len(got.L) != len(r.want.L) || len(got.O) != len(r.want.O) {
			t.Errorf("%d deep, %d", asDeep(got), e)
		}
	}
}

func TestVeryLongPaths(t *testing.T) {
	c := path(rem(0), make([]api.Step, 100000)...)
	c.Path[99999].Key = "x"
	d := comp.Copy(c)
	if len(d.Path) != 100000 || d.Path[99999].Key != "x" || !comp.Same(c, d) {
		t.Error("a long path")
	}
	d.Path[99999].Key = "y"
	if comp.Same(c, d) || comp.Sound(c) {
		t.Error("a long path")
	}
	refuses(t, deep(100000), c, api.ErrComp)
}
