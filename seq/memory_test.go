package seq_test

import (
	"math"
	"math/rand"
	"reflect"
	"runtime/debug"
	"testing"
	"unsafe"

	"conciliator/api"
	"conciliator/seq"
)

// blocks are the places of all memory that a component has, behind its lists' lengths too.
func blocks(c api.Comp) []unsafe.Pointer {
	out := []unsafe.Pointer{letters(c.Key), letters(c.S), unsafe.Pointer(unsafe.SliceData(c.Path))}
	for _, s := range c.Path {
		out = append(out, letters(s.Key))
	}
	return valueBlocks(c.V, out)
}

func valueBlocks(v api.Val, out []unsafe.Pointer) []unsafe.Pointer {
	out = listBlocks(v.L, append(out, letters(v.S), unsafe.Pointer(unsafe.SliceData(v.O))))
	for _, f := range v.O {
		out = valueBlocks(f.V, append(out, letters(f.Key)))
	}
	return out
}

func listBlocks(l []api.Val, out []unsafe.Pointer) []unsafe.Pointer {
	out = append(out, unsafe.Pointer(unsafe.SliceData(l)))
	for _, v := range l {
		out = valueBlocks(v, out)
	}
	return out
}

func letters(s string) unsafe.Pointer {
	if s == "" {
		return nil
	}
	return unsafe.Pointer(unsafe.StringData(s))
}

// nowhereAtAll is where all lists are that have no memory.
var nowhereAtAll = unsafe.Pointer(unsafe.SliceData(make([]api.Val, 0)))

// apart says that no two of these are the same place.
func apart(all []unsafe.Pointer) bool {
	had := map[unsafe.Pointer]bool{}
	for _, p := range all {
		if had[p] {
			return false
		}
		had[p] = p != nil && p != nowhereAtAll
	}
	return true
}

// compsApart says that no two of these components share memory, nor any two lists or texts of one.
func compsApart(all ...api.Comp) bool {
	var out []unsafe.Pointer
	for _, c := range all {
		out = append(out, blocks(c)...)
	}
	return apart(out)
}

func TestTurnIsNewMemory(t *testing.T) {
	for _, r := range allTurned() {
		for _, k := range []uint8{r.a.Kind, api.Put, 0} {
			for _, left := range []bool{true, false} {
				a, b := twin(full(kind(k, r.a))), twin(full(r.b))
				if !compsApart(a, b) {
					t.Fatal("the test itself shares memory")
				}
				all := append(comps(a, b), seq.Turn(a, b, left)...)
				all = append(all, seq.Turn(a, b, left)...)
				if !compsApart(all...) {
					t.Errorf("memory is shared by what %+v behind %+v answers", a, b)
				}
			}
		}
	}
}

// someLists are lists of values that have much in them, or nothing, at each place.
func someLists() [][]api.Val {
	return [][]api.Val{
		nil,
		{},
		{rich()},
		{list(), rich(), txt("ab"), object(at("k", rich()))},
		{rich(), rich(), number(1), list(list(txt("y"))), {}},
	}
}

func TestDoIsNewMemory(t *testing.T) {
	for _, l := range someLists() {
		for _, c := range possible(len(l), "x") {
			l, c := twinList(l), twin(full(c))
			all := listBlocks(l, blocks(c))
			if !apart(all) {
				t.Fatal("the test itself shares memory")
			}
			one, e := seq.Do(l, c)
			two, f := seq.Do(l, c)
			if e != api.OK || f != api.OK || !apart(listBlocks(two, listBlocks(one, all))) {
				t.Errorf("Do(%+v, %+v) shares memory", l, c)
			}
		}
	}
}

// Where lists that are handed in share memory, those of the answer stand apart.
func TestListsStandApart(t *testing.T) {
	v := rich()
	l := []api.Val{v, list(v, v), object(at("k", v), at("k", v)), v}
	for _, c := range possible(len(l), "x") {
		if got, _ := seq.Do(l, gives(v, c)); !apart(listBlocks(got, nil)) {
			t.Errorf("Do of %+v", c)
		}
	}
	a := gives(list(l...), move(1, 3))
	a.Path, a.Key = []api.Step{key("k"), key("k")}, "k"
	if got := seq.Turn(a, ins(2, "y"), true); len(got) != 1 || !compsApart(got...) {
		t.Errorf("%+v", got)
	}
	a = twin(a)
	a.Path, a.V.L, a.V.O = a.Path[:0], a.V.L[:0], []api.Field{at("k", number(1))}[:0]
	for _, c := range append(seq.Turn(a, ins(2, "y"), true), seq.Turn(kind(api.Put, a), a, true)...) {
		if cap(c.Path)+cap(c.V.L)+cap(c.V.O) > 0 {
			t.Error("memory behind an empty list")
		}
	}
}

// nothingBehind says that nothing lies behind these lists' lengths.
func nothingBehind(p []api.Step, l []api.Val, o []api.Field) bool {
	for _, s := range p[len(p):cap(p)] {
		if s != (api.Step{}) {
			return false
		}
	}
	for _, v := range l[len(l):cap(l)] {
		if !reflect.DeepEqual(v, api.Val{}) {
			return false
		}
	}
	for _, f := range o[len(o):cap(o)] {
		if !reflect.DeepEqual(f, api.Field{}) {
			return false
		}
	}
	return true
}

// What lies behind a list's length is not handed out, nor written.
func TestWhatLiesBehindStays(t *testing.T) {
	const whole = "abcdef"
	for n := range len(whole) {
		for _, c := range reaching(n, "x") {
			room := row(whole)
			got, _ := seq.Do(room[:n], c)
			if word(room) != whole || !nothingBehind(nil, got, nil) {
				t.Errorf("Do(%q, %+v): %q, %+v", whole[:n], c, word(room), got[:cap(got)])
			}
			_ = append(got, txt("z"))
			if word(room) != whole {
				t.Errorf("Do(%q, %+v): %q", whole[:n], c, word(room))
			}
		}
	}
	for _, k := range listKinds {
		a := full(kind(k, move(1, 3)))
		for _, c := range seq.Turn(a, ins(2, "y"), true) {
			if !nothingBehind(c.Path, c.V.L, c.V.O) {
				t.Errorf("behind the lists of %+v", c)
			}
			_, _, _ = append(c.Path, key("z")), append(c.V.L, txt("z")), append(c.V.O, at("z", txt("z")))
		}
		if a.Path[:4][3].Key != "behind" || a.V.L[:4][3].S != "behind" || a.V.O[:3][2].Key != "behind" {
			t.Errorf("changed: %+v", a)
		}
	}
}

// No call changes what it is handed.
func TestNothingIsChanged(t *testing.T) {
	for _, r := range allTurned() {
		a, b := full(r.a), full(r.b)
		aa, bb := twin(a), twin(b)
		for _, left := range []bool{true, false} {
			seq.Turn(a, b, left)
			seq.Turn(kind(api.Put, a), b, left)
		}
		seq.Check(3, a)
		seq.At(3, a)
		if !alike(comps(a, b), comps(aa, bb)) {
			t.Fatalf("changed: %+v, %+v", a, b)
		}
	}
	for _, l := range someLists() {
		for _, c := range reaching(len(l), "x") {
			l, c := append(l[:len(l):len(l)], txt("behind"))[:len(l)], full(c)
			ll, cc := twinList(l), twin(c)
			seq.Do(l, c)
			if !reflect.DeepEqual(twinList(l), ll) || !alike(comps(c), comps(cc)) || l[:len(l)+1][len(l)].S != "behind" {
				t.Fatalf("Do changed %+v, %+v", l, c)
			}
		}
	}
}

// change changes all that is in a value such as rich makes.
func change(v *api.Val) {
	v.L[0].S, v.L[1].N, v.L[2].L[0].N = "z", 51, 52
	v.O[0].Key, v.O[0].V.L[0].S, v.O[0].V.L[1].O[0].V.S, v.O[1].V = "z", "z", "z", txt("z")
	v.Kind, v.N, v.S = 77, 78, "z"
}

// What is done to an answer leaves what was handed in as it was, and the other way round.
func TestDoStandsAlone(t *testing.T) {
	for _, c := range append(possible(3, "x"), gives(rich(), ins(1, "")), gives(rich(), set(1, ""))) {
		c.V = rich()
		l := []api.Val{rich(), rich(), rich()}
		ll, cc := twinList(l), twin(c)
		got, _ := seq.Do(l, c)
		for i := range got {
			change(&got[i])
		}
		if !reflect.DeepEqual(twinList(l), ll) || !alike(comps(c), comps(cc)) {
			t.Fatalf("a change of an answer of %+v came through", c)
		}
		got, _ = seq.Do(l, c)
		want := twinList(got)
		for i := range l {
			change(&l[i])
		}
		change(&c.V)
		if !reflect.DeepEqual(twinList(got), want) {
			t.Fatalf("a change of what %+v was done to came through", c)
		}
	}
}

func TestTurnStandsAlone(t *testing.T) {
	for _, k := range append([]uint8{api.Put, 0}, listKinds...) {
		a, b := full(kind(k, move(1, 3))), full(ins(2, "y"))
		want := twins(comps(a, b))
		got := seq.Turn(a, b, true)
		had := twins(got)
		change(&a.V)
		change(&b.V)
		a.Path[0].Key, a.Path[1].I = "z", 50
		if len(got) != 1 || !alike(got, had) {
			t.Errorf("a change of what was handed in came through: %+v", got)
		}
		a, b = full(kind(k, move(1, 3))), full(ins(2, "y"))
		got = seq.Turn(a, b, true)
		change(&got[0].V)
		got[0].Path[0].Key, got[0].Path[1].I = "z", 50
		if !alike(comps(a, b), want) {
			t.Errorf("a change of an answer came through: %+v, %+v", a, b)
		}
	}
}

// No numbers and kinds make a call panic: most of these are beyond what the chapter speaks of.
func TestAnyNumbers(t *testing.T) {
	edges := []int{0, 1, 2, 3, 1<<31 - 1, 1 << 31, 1<<32 + 1, 1<<62 + 1, math.MaxInt - 1, math.MaxInt}
	for _, n := range edges[1:] {
		edges = append(edges, -n, ^n)
	}
	r := rand.New(rand.NewSource(1))
	some := func() int { return edges[r.Intn(len(edges))] }
	one := func() api.Comp {
		c := api.Comp{Kind: listKinds[r.Intn(4)], I: some(), J: some(), N: int64(some())}
		if r.Intn(16) == 0 {
			c.Kind = uint8(r.Intn(256))
		}
		return c
	}
	for range 300000 {
		a, b := one(), one()
		for _, c := range append(seq.Turn(a, b, true), seq.Turn(a, b, false)...) {
			if c.Kind != a.Kind || c.N != a.N {
				t.Fatalf("%+v behind %+v: %+v", a, b, c)
			}
		}
		if i, is := seq.At(some(), a); !is && i != 0 {
			t.Fatalf("At of %+v is %d, %v", a, i, is)
		}
		seq.Check(some(), a)
		n := r.Intn(4)
		l, e := seq.Do(row("abc"[:n]), a)
		if e != seq.Check(n, a) || e != api.OK && len(l) > 0 {
			t.Fatalf("Do(%d, %+v) is %+v, %d", n, a, l, e)
		}
	}
}

// veryDeep is a text in so many lists and objects.
func veryDeep(deep int) api.Val {
	v := txt("x")
	for i := range deep {
		if i%2 == 0 {
			v = list(v)
		} else {
			v = object(at("k", v))
		}
	}
	return v
}

// asDeep says how many lists and objects such a one has.
func asDeep(v api.Val) int {
	n := 0
	for ; v.Kind != api.Text; n++ {
		if v.Kind == api.List {
			v = v.L[0]
		} else {
			v = v.O[0].V
		}
	}
	return n
}

// Each call ends, however deep a value lies in a list or a component: a small stack stands in for one that outgrows a great one.
func TestVeryDeepValues(t *testing.T) {
	defer debug.SetMaxStack(debug.SetMaxStack(1 << 20))
	const deep = 200000
	v := veryDeep(deep)
	for _, k := range append([]uint8{api.Put}, listKinds...) {
		a := gives(v, kind(k, move(1, 0)))
		for _, c := range append(seq.Turn(a, ins(2, "y"), true), seq.Turn(kind(api.Put, a), a, true)...) {
			if asDeep(c.V) != deep {
				t.Errorf("%d deep", asDeep(c.V))
			}
		}
		l, _ := seq.Do([]api.Val{v, v}, a)
		for _, x := range l {
			if asDeep(x) != deep {
				t.Errorf("%d deep", asDeep(x))
			}
		}
	}
}

func TestVeryLongPaths(t *testing.T) {
	a := move(1, 3)
	a.Path = make([]api.Step, 100000)
	a.Path[99999].Key = "x"
	got := seq.Turn(a, ins(2, "y"), true)
	if len(got) != 1 || len(got[0].Path) != 100000 || got[0].Path[99999].Key != "x" {
		t.Error("a long path")
	}
}
