package val_test

import (
	"math/rand"
	"reflect"
	"testing"
	"unsafe"

	"conciliator/api"
	"conciliator/val"
)

// blocks are the places of all memory that a value has, behind its lists' lengths too.
func blocks(v api.Val, out []unsafe.Pointer) []unsafe.Pointer {
	if len(v.S) > 0 {
		out = append(out, unsafe.Pointer(unsafe.StringData(v.S)))
	}
	if v.L != nil {
		out = append(out, unsafe.Pointer(unsafe.SliceData(v.L)))
	}
	if v.O != nil {
		out = append(out, unsafe.Pointer(unsafe.SliceData(v.O)))
	}
	for _, x := range v.L {
		out = blocks(x, out)
	}
	for _, f := range v.O {
		if len(f.Key) > 0 {
			out = append(out, unsafe.Pointer(unsafe.StringData(f.Key)))
		}
		out = blocks(f.V, out)
	}
	return out
}

func shareMemory(a, b api.Val) bool {
	had := map[unsafe.Pointer]bool{}
	for _, p := range blocks(a, nil) {
		had[p] = true
	}
	for _, p := range blocks(b, nil) {
		if had[p] {
			return true
		}
	}
	return false
}

func TestCopyIsTheSame(t *testing.T) {
	all := append(everyKind(), oddOnes()...)
	all = append(all, list(all...), nest(txt("x"), 60))
	for _, v := range all {
		c := val.Copy(v)
		if !val.Same(v, c) || !reflect.DeepEqual(v, c) {
			t.Errorf("Copy(%+v) is %+v", v, c)
		}
	}
}

func TestCopyIsNewMemory(t *testing.T) {
	all := append(everyKind(), oddOnes()...)
	all = append(all, list(all...), object(at("a", list(all...)), at("b", nest(txt("x"), 60))))
	for _, v := range all {
		v = twin(v) // texts that stand written in the tests may have one place together
		one, two := val.Copy(v), val.Copy(v)
		if shareMemory(v, one) || shareMemory(v, two) || shareMemory(one, two) {
			t.Errorf("memory is shared: %+v", v)
		}
	}
}

// Changing one changes nothing of the other, at any depth.
func TestCopyStandsAlone(t *testing.T) {
	v := list(number(1), object(at("a", list(txt("x"))), at("b", number(2))))
	want := twin(v)
	c := val.Copy(v)
	c.L[1].O[0].V.L[0].S = "y"
	c.L[1].O[0].Key = "aa"
	c.L[1].O[1].V.N = 5
	c.L[0] = null()
	if !reflect.DeepEqual(v, want) {
		t.Errorf("a change of the copy came through: %+v", v)
	}
	c = val.Copy(v)
	v.L[1].O[0].V.L[0].S = "y"
	v.L[1].O[0].Key = "aa"
	v.L[0].N = 9
	if !reflect.DeepEqual(c, want) {
		t.Errorf("a change of the value came through: %+v", c)
	}
}

// A list that stands at two places of a value stands apart in its copy.
func TestCopyLaysListsApart(t *testing.T) {
	l := list(number(1))
	o := object(at("a", number(1)))
	c := val.Copy(list(l, l, o, o))
	c.L[0].L[0].N = 2
	c.L[2].O[0].V.N = 2
	if c.L[1].L[0].N != 1 || c.L[3].O[0].V.N != 1 {
		t.Error("two lists of a copy share memory")
	}
}

func TestCopyLeavesWhatLiesBehind(t *testing.T) {
	l := []api.Val{number(1), number(2), number(3)}
	o := []api.Field{at("a", null()), at("b", null())}
	c := val.Copy(api.Val{Kind: api.List, L: l[:1], O: o[:0]})
	for _, x := range c.L[1:cap(c.L)] {
		if !reflect.DeepEqual(x, api.Val{}) {
			t.Errorf("behind the copy's list: %+v", x)
		}
	}
	if cap(c.O) > 0 {
		t.Error("memory behind an empty list")
	}
	_ = append(c.L, number(7))
	if l[1].N != 2 || l[2].N != 3 || o[0].Key != "a" {
		t.Error("memory behind a list was written to")
	}
}

// No call changes what it is handed, nor what lies behind its lists' lengths.
func TestNothingIsChanged(t *testing.T) {
	r := rand.New(rand.NewSource(1))
	all := append(everyKind(), oddOnes()...)
	for range 200 {
		all = append(all, chance(r, 3))
	}
	whole := twin(list(all...)).L
	for i := range all {
		v := api.Val{Kind: api.List, L: all[i : i+1], O: []api.Field{at("b", all[i]), at("a", all[i])}[:1]}
		val.Sound(v)
		val.Same(v, v)
		val.Same(v, val.Copy(v))
		val.Weight(v)
		val.Deep(v)
		val.Field(v, "a")
		if v.O[0].Key != "b" || v.O[:2][1].Key != "a" || len(v.L) != 1 || len(v.O) != 1 {
			t.Fatal("the value handed in was changed")
		}
	}
	for i := range all {
		if !val.Same(all[i], whole[i]) {
			t.Errorf("%+v became %+v", whole[i], all[i])
		}
	}
}
