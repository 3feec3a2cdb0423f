package path_test

import (
	"math/rand"
	"reflect"
	"runtime/debug"
	"slices"
	"testing"

	"conciliator/api"
	"conciliator/path"
)

// What the chapter says of Get and Put, by recursion, to be held against the calls.

func plainGet(v api.Val, p []api.Step) (api.Val, bool) {
	if len(p) == 0 {
		return v, true
	}
	i, there := plainPlace(v, p[0])
	if !there {
		return api.Val{}, false
	}
	if p[0].List {
		return plainGet(v.L[i], p[1:])
	}
	return plainGet(v.O[i].V, p[1:])
}

func plainPut(v api.Val, p []api.Step, x api.Val) (api.Val, bool) {
	if len(p) == 0 {
		return twin(x), true
	}
	i, there := plainPlace(v, p[0])
	if !there {
		return api.Val{}, false
	}
	v, ok := twin(v), false
	if p[0].List {
		v.L[i], ok = plainPut(v.L[i], p[1:], x)
	} else {
		v.O[i].V, ok = plainPut(v.O[i].V, p[1:], x)
	}
	if !ok {
		v = api.Val{}
	}
	return v, ok
}

func plainPlace(v api.Val, s api.Step) (int, bool) {
	if s.List {
		return s.I, v.Kind == api.List && 0 <= s.I && s.I < len(v.L)
	}
	i := slices.IndexFunc(v.O, func(f api.Field) bool { return f.Key >= s.Key })
	return i, v.Kind == api.Obj && i >= 0 && v.O[i].Key == s.Key
}

func TestAnyValuesAndPaths(t *testing.T) {
	r := rand.New(rand.NewSource(3))
	led, astray := 0, 0
	for range 10000 {
		v, x := chance(r, 4), chance(r, 2)
		p := chancePath(r, v)
		want, ok := plainGet(v, p)
		why := api.OK
		if ok {
			led++
		} else {
			astray++
			why = api.ErrPath
		}
		if y, e := path.Get(v, p); e != why || !reflect.DeepEqual(twin(y), twin(want)) {
			t.Fatalf("Get(%+v, %+v) is %+v, %d", v, p, y, e)
		}
		want, _ = plainPut(v, p, x)
		if w, e := path.Put(v, p, x); e != why || !reflect.DeepEqual(twin(w), twin(want)) {
			t.Fatalf("Put(%+v, %+v, %+v) is %+v, %d", v, p, x, w, e)
		}
	}
	if led < 2000 || astray < 1000 {
		t.Errorf("of the paths %d led to somewhere, %d did not", led, astray)
	}
}

func TestAnyPaths(t *testing.T) {
	r := rand.New(rand.NewSource(4))
	anyPath := func() []api.Step {
		p := make([]api.Step, r.Intn(4))
		for i := range p {
			p[i] = api.Step{List: r.Intn(2) == 0, I: r.Intn(2), Key: texts[r.Intn(2)]}
		}
		return p
	}
	for range 20000 {
		p, q := anyPath(), anyPath()
		want := len(p) >= len(q)
		for i := 0; want && i < len(q); i++ {
			want = p[i].List == q[i].List && p[i].I == q[i].I && p[i].Key == q[i].Key
		}
		if path.Begins(p, q) != want {
			t.Fatalf("Begins(%+v, %+v) is %v", p, q, !want)
		}
		want = true
		for _, s := range p {
			want = want && (!s.List || s.Key == "") && (s.List || s.I == 0)
		}
		if path.Sound(p) != want {
			t.Fatalf("Sound(%+v) is %v", p, !want)
		}
	}
}

// Each call ends, however many steps there are: a small stack stands in for a path that outgrows a great one.
func TestVeryLongPaths(t *testing.T) {
	defer debug.SetMaxStack(debug.SetMaxStack(1 << 20))
	const deep = 200000
	v, p := nest(txt("x"), deep)
	if path.Sound(p) || !path.Begins(p, p[:deep-1]) || path.Begins(p[:deep-1], p) {
		t.Error("Sound, Begins")
	}
	if x, e := path.Get(v, p); e != api.OK || x.S != "x" {
		t.Errorf("Get is %+v, %d", x, e)
	}
	if x, e := path.Get(v, append(slices.Clone(p), nth(0))); e != api.ErrPath || x.S != "" {
		t.Errorf("Get of one more step is %+v, %d", x, e)
	}
	w, e := path.Put(v, p, txt("y"))
	if e != api.OK {
		t.Fatal(e)
	}
	x, _ := path.Get(v, p)
	y, _ := path.Get(w, p)
	if x.S != "x" || y.S != "y" {
		t.Error("Put")
	}
}

func TestVeryWideValues(t *testing.T) {
	const wide = 100000
	v := list(make([]api.Val, wide)...)
	w, e := path.Put(v, way(nth(wide-1)), txt("y"))
	if e != api.OK || len(w.L) != wide || w.L[wide-1].S != "y" || v.L[wide-1].S != "" {
		t.Error("Put at the last of a wide list")
	}
	if _, e := path.Get(v, way(nth(wide))); e != api.ErrPath {
		t.Error("Get behind the last of a wide list")
	}
}
