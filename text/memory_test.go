package text_test

import (
	"math/rand"
	"reflect"
	"runtime/debug"
	"strings"
	"testing"
	"unsafe"

	"conciliator/api"
	"conciliator/text"
)

// blocks are the places of all memory that a component has, behind its lists' lengths too.
func blocks(c api.Comp) []unsafe.Pointer {
	out := []unsafe.Pointer{letters(c.Key), letters(c.S), unsafe.Pointer(unsafe.SliceData(c.Path))}
	for _, s := range c.Path {
		out = append(out, letters(s.Key))
	}
	return valueBlocks(c.V, out)
}

func valueBlocks(v api.Val, out []unsafe.Pointer) []unsafe.Pointer {
	out = append(out, letters(v.S), unsafe.Pointer(unsafe.SliceData(v.L)), unsafe.Pointer(unsafe.SliceData(v.O)))
	for _, x := range v.L {
		out = valueBlocks(x, out)
	}
	for _, f := range v.O {
		out = valueBlocks(f.V, append(out, letters(f.Key)))
	}
	return out
}

func letters(s string) unsafe.Pointer {
	if s == "" {
		return nil
	}
	return unsafe.Pointer(unsafe.StringData(s))
}

// nowhereAtAll is where all lists are that have no memory.
var nowhereAtAll = unsafe.Pointer(unsafe.SliceData(make([]api.Val, 0)))

// apart says that no two of these components share memory, nor any two lists or texts of one.
func apart(all ...api.Comp) bool {
	had := map[unsafe.Pointer]bool{nil: false, nowhereAtAll: false}
	for _, c := range all {
		for _, p := range blocks(c) {
			if had[p] {
				return false
			}
			had[p] = p != nil && p != nowhereAtAll
		}
	}
	return true
}

func TestTurnIsNewMemory(t *testing.T) {
	for _, r := range allTurned() {
		for _, k := range []uint8{r.a.Kind, api.Put, 0} {
			for _, left := range []bool{true, false} {
				a, b := twin(laden(says("a's", kind(k, r.a)))), twin(laden(says("b's", r.b)))
				if !apart(a, b) {
					t.Fatal("the test itself shares memory")
				}
				all := append(comps(a, b), text.Turn(a, b, left)...)
				all = append(all, text.Turn(a, b, left)...)
				if !apart(all...) {
					t.Errorf("memory is shared by what %+v behind %+v answers", a, b)
				}
			}
		}
	}
}

// A component whose lists share memory stands apart in the answer at each of its places.
func TestTurnLaysListsApart(t *testing.T) {
	l := list(txt("x"), number(1))
	a := tdel(1, 3)
	a.Path, a.Key, a.V = []api.Step{key("k"), key("k")}, "k", list(l, l, object(at("k", l), at("k", l)))
	got := text.Turn(a, tins(2, "xy"), true)
	if len(got) != 2 || !apart(got...) {
		t.Errorf("%+v", got)
	}
	a = twin(a)
	a.Path, a.V.L, a.V.O = a.Path[:0], a.V.L[:0], []api.Field{at("k", number(1))}[:0]
	for _, c := range text.Turn(a, tins(2, "xy"), true) {
		if cap(c.Path)+cap(c.V.L)+cap(c.V.O) > 0 {
			t.Error("memory behind an empty list")
		}
	}
}

// What lies behind a list's length is not handed out, nor written.
func TestTurnLeavesWhatLiesBehind(t *testing.T) {
	a := laden(tdel(1, 3))
	for _, c := range text.Turn(a, tins(2, "xy"), true) {
		for _, s := range c.Path[len(c.Path):cap(c.Path)] {
			if s != (api.Step{}) {
				t.Errorf("behind the path: %+v", s)
			}
		}
		for _, v := range c.V.L[len(c.V.L):cap(c.V.L)] {
			if !reflect.DeepEqual(v, api.Val{}) {
				t.Errorf("behind the list: %+v", v)
			}
		}
		for _, f := range c.V.O[len(c.V.O):cap(c.V.O)] {
			if !reflect.DeepEqual(f, api.Field{}) {
				t.Errorf("behind the object: %+v", f)
			}
		}
		_, _, _ = append(c.Path, key("new")), append(c.V.L, txt("new")), append(c.V.O, at("new", number(1)))
	}
	if a.Path[:4][3].Key != "behind" || a.V.L[:4][3].S != "behind" || a.V.O[:3][2].Key != "behind" {
		t.Errorf("changed: %+v", a)
	}
}

func TestDoIsNewMemory(t *testing.T) {
	for _, s := range []string{"abcd", "\u20ac\xff\U0001f600", "x"} {
		for _, c := range possible(s, "", "y", "\u00e9z") {
			s, c := strings.Clone(s), twin(c)
			one, _ := text.Do(s, c)
			two, _ := text.Do(s, c)
			if within(one, s) || within(one, c.S) || within(one, two) {
				t.Errorf("Do(%q, %+v) shares memory", s, c)
			}
		}
	}
	s := strings.Clone("abcd")
	if out, _ := text.Do("", tins(0, s)); out != s || within(out, s) {
		t.Error("Do hands out S itself")
	}
}

// within says whether a text begins within another one's memory.
func within(a, b string) bool {
	from, p := uintptr(letters(b)), uintptr(letters(a))
	return p != 0 && from != 0 && from <= p && p < from+uintptr(len(b))
}

// No call changes what it is handed.
func TestNothingIsChanged(t *testing.T) {
	for _, r := range allTurned() {
		a, b, s := laden(r.a), laden(r.b), strings.Clone("a\u00e9\u20ac\xffbcdef")
		aa, bb, ss := twin(a), twin(b), strings.Clone(s)
		for _, left := range []bool{true, false} {
			text.Turn(a, b, left)
			text.Turn(kind(api.Put, a), b, left)
		}
		text.Len(s)
		text.Check(s, a)
		text.Do(s, a)
		if !alike(comps(a, b), comps(aa, bb)) || s != ss {
			t.Fatalf("changed: %+v, %+v, %q", a, b, s)
		}
	}
}

// Changing an answer changes nothing of what was handed in, nor of its other component, nor the other way round.
func TestTurnStandsAlone(t *testing.T) {
	change := func(c *api.Comp) {
		c.Path[0].Key, c.Path[1].I, c.V.L[1].N, c.V.L[2].L[0].N = "z", 50, 51, 52
		c.V.O[0].Key, c.V.O[0].V.L[0].S, c.V.O[0].V.L[1].O[0].V.S, c.V.O[1].V = "z", "z", "z", txt("z")
	}
	a := laden(tdel(1, 3))
	want := twin(a)
	got := text.Turn(a, tins(2, "xy"), true)
	one, two := twin(got[0]), twin(got[1])
	change(&a)
	if !alike(got, comps(one, two)) {
		t.Error("a change of what was handed in came through")
	}
	a = laden(tdel(1, 3))
	got = text.Turn(a, tins(2, "xy"), true)
	change(&got[0])
	if !alike(comps(a, got[1]), comps(want, two)) {
		t.Error("a change of an answer came through")
	}
}

// No numbers, kinds and bytes make a call panic: most of these are beyond what the chapter speaks of.
func TestAnyNumbers(t *testing.T) {
	edges := []int64{0, 1, 2, 3, 1<<31 - 1, 1 << 31, 1<<32 + 1, 1<<62 + 1, 1<<63 - 1}
	for _, n := range edges[1:] {
		edges = append(edges, -n, ^n)
	}
	r := rand.New(rand.NewSource(1))
	one := func() api.Comp {
		s := make([]byte, r.Intn(4))
		r.Read(s)
		c := api.Comp{Kind: api.Tins + uint8(r.Intn(2)), S: string(s)}
		if r.Intn(16) == 0 {
			c.Kind = uint8(r.Intn(256))
		}
		c.I, c.J, c.N = int(edges[r.Intn(len(edges))]), int(r.Uint64()), edges[r.Intn(len(edges))]
		return c
	}
	for range 300000 {
		a, b := one(), one()
		for _, c := range append(text.Turn(a, b, true), text.Turn(a, b, false)...) {
			if c.Kind != a.Kind || c.S != a.S || c.J != a.J {
				t.Fatalf("%+v behind %+v: %+v", a, b, c)
			}
		}
		e := text.Check(b.S, a)
		s, f := text.Do(b.S, a)
		if e != f || e != api.OK && s != "" {
			t.Fatalf("Do(%q, %+v) is %q, %d; Check %d", b.S, a, s, f, e)
		}
	}
}

// Each call ends, however deep a value lies in a component: a small stack stands in for one that outgrows a great one.
func TestVeryDeepValues(t *testing.T) {
	defer debug.SetMaxStack(debug.SetMaxStack(1 << 20))
	const deep = 200000
	a := tdel(1, 3)
	a.V = txt("x")
	for i := range deep {
		if i%2 == 0 {
			a.V = list(a.V)
		} else {
			a.V = object(at("k", a.V))
		}
	}
	for _, c := range append(text.Turn(a, tins(2, "xy"), true), text.Turn(kind(api.Set, a), a, true)...) {
		v, n := c.V, 0
		for ; v.Kind != api.Text; n++ {
			if v.Kind == api.List {
				v = v.L[0]
			} else {
				v = v.O[0].V
			}
		}
		if n != deep || v.S != "x" {
			t.Errorf("%d deep: %q", n, v.S)
		}
	}
}

func TestVeryLongPaths(t *testing.T) {
	a := tdel(1, 3)
	a.Path = make([]api.Step, 100000)
	a.Path[99999].Key = "x"
	got := text.Turn(a, tins(2, "xy"), true)
	if len(got) != 2 || len(got[0].Path) != 100000 || got[1].Path[99999].Key != "x" {
		t.Error("a long path")
	}
}
