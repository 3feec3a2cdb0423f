package val_test

import (
	"math/rand"
	"runtime/debug"
	"testing"
	"unicode/utf8"

	"conciliator/api"
	"conciliator/val"
)

// What the chapter says of each call, by recursion, to be held against the calls.

func plainSound(v api.Val) bool {
	ok := v.Kind <= api.Obj
	ok = ok && (v.N == 0 || v.Kind == api.Int || v.Kind == api.Bool && v.N == 1)
	ok = ok && (v.S == "" || v.Kind == api.Text && utf8.ValidString(v.S))
	ok = ok && (len(v.L) == 0 || v.Kind == api.List)
	ok = ok && (len(v.O) == 0 || v.Kind == api.Obj)
	for _, x := range v.L {
		ok = ok && plainSound(x)
	}
	for i, f := range v.O {
		ok = ok && utf8.ValidString(f.Key) && plainSound(f.V) && (i == 0 || v.O[i-1].Key < f.Key)
	}
	return ok
}

func plainSame(a, b api.Val) bool {
	ok := a.Kind == b.Kind && a.N == b.N && a.S == b.S && len(a.L) == len(b.L) && len(a.O) == len(b.O)
	for i := 0; ok && i < len(a.L); i++ {
		ok = plainSame(a.L[i], b.L[i])
	}
	for i := 0; ok && i < len(a.O); i++ {
		ok = a.O[i].Key == b.O[i].Key && plainSame(a.O[i].V, b.O[i].V)
	}
	return ok
}

func plainWeight(v api.Val) int {
	n := 1 + len(v.S)
	for _, x := range v.L {
		n += plainWeight(x)
	}
	for _, f := range v.O {
		n += len(f.Key) + plainWeight(f.V)
	}
	return n
}

func plainDeep(v api.Val) int {
	n := 0
	for _, x := range v.L {
		n = max(n, 1+plainDeep(x))
	}
	for _, f := range v.O {
		n = max(n, 1+plainDeep(f.V))
	}
	return n
}

func TestAnyValues(t *testing.T) {
	r := rand.New(rand.NewSource(2))
	for range 5000 {
		a, b := chance(r, r.Intn(4)), chance(r, r.Intn(2))
		if val.Sound(a) != plainSound(a) || val.Sound(b) != plainSound(b) {
			t.Fatalf("Sound of %+v, %+v", a, b)
		}
		if val.Same(a, b) != plainSame(a, b) || !val.Same(a, twin(a)) {
			t.Fatalf("Same of %+v, %+v", a, b)
		}
		if val.Weight(a) != plainWeight(a) || val.Deep(a) != plainDeep(a) {
			t.Fatalf("Weight, Deep of %+v", a)
		}
		if c := val.Copy(a); !plainSame(a, c) || shareMemory(twin(a), c) {
			t.Fatalf("Copy of %+v", a)
		}
	}
}

// One that is changed at one place only is another one.
func TestOneChangeTells(t *testing.T) {
	r := rand.New(rand.NewSource(3))
	for range 2000 {
		a := chance(r, 3)
		b := twin(a)
		at := &b
		for len(at.L)+len(at.O) > 0 && r.Intn(4) > 0 {
			if i := r.Intn(len(at.L) + len(at.O)); i < len(at.L) {
				at = &at.L[i]
			} else {
				at = &at.O[i-len(at.L)].V
			}
		}
		at.N++
		if val.Same(a, b) || val.Same(b, a) {
			t.Fatalf("the same: %+v, %+v", a, b)
		}
	}
}

// Each call ends, however deep values lie in one another: a small stack stands in for a value that outgrows a great one.
func TestVeryDeepValues(t *testing.T) {
	defer debug.SetMaxStack(debug.SetMaxStack(1 << 20))
	const deep = 200000
	v := nest(txt("x"), deep)
	odd := nest(api.Val{Kind: 6}, deep)
	if !val.Sound(v) || val.Sound(odd) {
		t.Error("Sound")
	}
	if val.Deep(v) != deep || val.Weight(v) != 2+deep+deep/2 {
		t.Error("Deep, Weight")
	}
	if !val.Same(v, val.Copy(v)) || val.Same(v, odd) {
		t.Error("Same, Copy")
	}
}

func TestVeryWideValues(t *testing.T) {
	const wide = 300000
	v := api.Val{Kind: api.List, L: make([]api.Val, wide)}
	if !val.Sound(v) || val.Weight(v) != 1+wide || val.Deep(v) != 1 || !val.Same(v, val.Copy(v)) {
		t.Error("a wide list")
	}
	v.L[wide-1].Kind = 6
	if val.Sound(v) {
		t.Error("the last one is not looked at")
	}
}
