package path_test

import (
	"math/rand"
	"reflect"
	"slices"
	"strings"
	"testing"
	"unsafe"

	"conciliator/api"
	"conciliator/path"
)

// blocks are the places of all memory that a value has, behind its lists' lengths too.
func blocks(v api.Val, out []unsafe.Pointer) []unsafe.Pointer {
	out = append(out, unsafe.Pointer(unsafe.SliceData(v.L)), unsafe.Pointer(unsafe.SliceData(v.O)), letters(v.S))
	for _, x := range v.L {
		out = blocks(x, out)
	}
	for _, f := range v.O {
		out = blocks(f.V, append(out, letters(f.Key)))
	}
	return slices.DeleteFunc(out, func(p unsafe.Pointer) bool { return p == nil || p == nowhereAtAll })
}

func letters(s string) unsafe.Pointer {
	if s == "" {
		return nil
	}
	return unsafe.Pointer(unsafe.StringData(s))
}

// nowhereAtAll is where all lists are that have no memory.
var nowhereAtAll = unsafe.Pointer(unsafe.SliceData(make([]api.Val, 0)))

// apart says that no two of these values share memory, nor any two lists or texts of one.
func apart(all ...api.Val) bool {
	had := map[unsafe.Pointer]bool{}
	for _, v := range all {
		for _, p := range blocks(v, nil) {
			if had[p] {
				return false
			}
			had[p] = true
		}
	}
	return true
}

// world is a value with all kinds of things in it, at some depth, in memory of its own.
func world() api.Val {
	whole := list(append(everyKind(), oddOnes()...)...)
	return twin(object(at("a", whole), at("b", list(txt("x"), whole, list(whole))), at("c", object(at("k", whole)))))
}

// ways are paths to places in a world: on its surface, deep in it, and all of it.
func ways() [][]api.Step {
	return [][]api.Step{
		nil,
		way(key("a")), way(key("b")), way(key("c")),
		way(key("a"), nth(7)), way(key("a"), nth(11)),
		way(key("b"), nth(0)), way(key("b"), nth(1)), way(key("b"), nth(2), nth(0)),
		way(key("c"), key("k")), way(key("c"), key("k"), nth(14), key("b"), nth(0)),
	}
}

func TestAnswersAreNewMemory(t *testing.T) {
	for _, p := range ways() {
		v, x := world(), twin(list(txt("put"), object(at("key", list(txt("deep"))))))
		if !apart(v, x) {
			t.Fatal("the test itself shares memory")
		}
		one, e := path.Get(v, p)
		two, f := path.Get(v, p)
		three, g := path.Put(v, p, x)
		four, h := path.Put(v, p, x)
		if e+f+g+h != api.OK {
			t.Fatalf("%+v leads nowhere", p)
		}
		if !apart(v, x, one, two, three, four) {
			t.Errorf("memory is shared by what %+v answers", p)
		}
	}
}

// A value that is put into itself, or is there twice, stands apart at each of its places.
func TestWhatIsPutStandsApart(t *testing.T) {
	l := twin(list(txt("x"), number(1)))
	v := list(l, l, object(at("a", l)))
	for _, p := range [][]api.Step{way(nth(0)), way(nth(2)), way(nth(2), key("a")), way(nth(1), nth(0)), nil} {
		for _, x := range []api.Val{l, v, v.L[2]} {
			w, e := path.Put(v, p, x)
			if e != api.OK || !apart(w, l) {
				t.Errorf("Put of %+v at %+v: %d, or memory is shared", x, p, e)
			}
		}
	}
}

// A key of a path is no memory of what is answered.
func TestKeysAreNewMemory(t *testing.T) {
	k := strings.Clone("key")
	v := object(at(k, list(txt("x"))))
	w, e := path.Put(v, way(key(k)), number(1))
	if e != api.OK || unsafe.StringData(w.O[0].Key) == unsafe.StringData(k) {
		t.Error("a key shares memory with the path's")
	}
}

// No call changes what it is handed, nor what lies behind its lists' lengths.
func TestNothingIsChanged(t *testing.T) {
	r := rand.New(rand.NewSource(1))
	for range 3000 {
		v, x := chance(r, 4), chance(r, 2)
		p := chancePath(r, v)
		vv, xx, pp := twin(v), twin(x), slices.Clone(p)
		path.Sound(p)
		path.Begins(p, p[len(p)/2:])
		path.Get(v, p)
		path.Put(v, p, x)
		if !reflect.DeepEqual(v, vv) || !reflect.DeepEqual(x, xx) || !slices.Equal(p, pp) {
			t.Fatalf("changed: %+v, %+v, %+v", v, x, p)
		}
	}
	l := []api.Val{list(number(1)), number(2), number(3)}
	o := []api.Field{at("a", list(number(1))), at("b", number(2))}
	v := api.Val{Kind: api.List, L: l[:1], O: o[:1]}
	for _, p := range [][]api.Step{nil, way(nth(0)), way(nth(0), nth(0)), way(nth(1))} {
		w, _ := path.Put(v, p, number(9))
		_, _ = append(w.L, number(8)), append(w.O, at("c", number(8)))
	}
	path.Put(api.Val{Kind: api.Obj, O: o[:1]}, way(key("a"), nth(0)), number(9))
	want := []api.Val{list(number(1)), number(2), number(3)}
	if !reflect.DeepEqual(l, want) || !reflect.DeepEqual(o, []api.Field{at("a", want[0]), at("b", number(2))}) {
		t.Errorf("changed: %+v, %+v", l, o)
	}
}

// Changing an answer changes nothing of what was handed in, nor the other way round.
func TestAnswersStandAlone(t *testing.T) {
	v, x, p := world(), list(list(number(1))), way(key("b"), nth(2))
	one, _ := path.Get(v, way(key("b")))
	two, _ := path.Put(v, p, x)
	wantV, wantOne, wantTwo := twin(v), twin(one), twin(two)
	v.O[1].V.L[1].L[11].L[0].N, v.O[0].Key, x.L[0].L[0].N = 50, "z", 51
	if !reflect.DeepEqual(twin(one), wantOne) || !reflect.DeepEqual(twin(two), wantTwo) {
		t.Error("a change of a value came through")
	}

	v, x = wantV, list(list(number(1)))
	want := twin(v)
	one, _ = path.Get(v, way(key("b")))
	two, _ = path.Put(v, p, x)
	one.L[1].L[11].L[0].N, two.O[1].V.L[1].L[11].L[0].N, two.O[1].V.L[2].L[0].L[0].N = 52, 53, 54
	one.L[0], two.O[0].Key, two.O[2].V.O[0].V.L[0] = null(), "z", number(55)
	if !reflect.DeepEqual(v, want) || x.L[0].L[0].N != 1 {
		t.Error("a change of an answer came through")
	}
}
