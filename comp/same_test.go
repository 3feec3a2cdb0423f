package comp_test

import (
	"testing"

	"conciliator/api"
	"conciliator/comp"
)

// many are components no two of which are the same.
func many() []api.Comp {
	all := append(ordinary(), api.Comp{}, api.Comp{Kind: 10}, api.Comp{Kind: 255}, laden(api.Add), laden(0), laden(77))
	for _, c := range ordinary() {
		all = append(all, path(c, key("a")), path(c, key("a"), nth(0)), path(c, nth(0), key("a")), path(c, key("")))
	}
	for _, v := range append(everyKind(), oddOnes()...) {
		all = append(all, put("v", v), gives(v, rem(1000)))
	}
	return all
}

func TestSameOfAll(t *testing.T) {
	all := many()
	for i, a := range all {
		for j, b := range all {
			if got := comp.Same(a, twin(b)); got != (i == j) {
				t.Errorf("Same(%+v, %+v) is %v", a, b, got)
			}
		}
	}
}

// A field counts whatever the kind: also where it says nothing.
func TestSameLooksAtAllFields(t *testing.T) {
	change := []struct {
		name string
		do   func(c *api.Comp)
	}{
		{"Kind", func(c *api.Comp) { c.Kind++ }},
		{"Path, none", func(c *api.Comp) { c.Path = nil }},
		{"Path, shorter", func(c *api.Comp) { c.Path = c.Path[:2] }},
		{"Path, longer", func(c *api.Comp) { c.Path = append(c.Path, api.Step{}) }},
		{"Path, without the first", func(c *api.Comp) { c.Path = c.Path[1:] }},
		{"Path, others' order", func(c *api.Comp) { c.Path[0], c.Path[1] = c.Path[1], c.Path[0] }},
		{"a first step's Key", func(c *api.Comp) { c.Path[0].Key = "b" }},
		{"a first step's I", func(c *api.Comp) { c.Path[0].I = 1 }},
		{"a first step's List", func(c *api.Comp) { c.Path[0].List = true }},
		{"a step's I", func(c *api.Comp) { c.Path[1].I = 2 }},
		{"a step's I, high bits", func(c *api.Comp) { c.Path[1].I += 1 << 40 }},
		{"a step's Key, where it says nothing", func(c *api.Comp) { c.Path[1].Key = "a" }},
		{"a last step's List", func(c *api.Comp) { c.Path[2].List = false }},
		{"a last step's Key", func(c *api.Comp) { c.Path[2].Key = "\xfe" }},
		{"Key", func(c *api.Comp) { c.Key = "k" }},
		{"Key, none", func(c *api.Comp) { c.Key = "" }},
		{"Key, as long", func(c *api.Comp) { c.Key = "k\xff" }},
		{"I", func(c *api.Comp) { c.I++ }},
		{"I, high bits", func(c *api.Comp) { c.I += 1 << 40 }},
		{"I, below 0", func(c *api.Comp) { c.I = -c.I }},
		{"J", func(c *api.Comp) { c.J++ }},
		{"J, high bits", func(c *api.Comp) { c.J += 1 << 40 }},
		{"I and J", func(c *api.Comp) { c.I, c.J = c.J, c.I }},
		{"N", func(c *api.Comp) { c.N++ }},
		{"N, high bits", func(c *api.Comp) { c.N += 1 << 50 }},
		{"V, none", func(c *api.Comp) { c.V = api.Val{} }},
		{"V's Kind", func(c *api.Comp) { c.V.Kind = api.Obj }},
		{"V's N", func(c *api.Comp) { c.V.N = 1 }},
		{"V's S", func(c *api.Comp) { c.V.S = "a" }},
		{"V's L", func(c *api.Comp) { c.V.L = c.V.L[:2] }},
		{"V's O", func(c *api.Comp) { c.V.O = c.V.O[:1] }},
		{"in V's L", func(c *api.Comp) { c.V.L[2].L[0].N = 2 }},
		{"in V's O", func(c *api.Comp) { c.V.O[0].V.L[1].O[0].V.S = "y" }},
		{"a key in V", func(c *api.Comp) { c.V.O[1].Key = "c" }},
		{"S", func(c *api.Comp) { c.S = "s" }},
		{"S, none", func(c *api.Comp) { c.S = "" }},
		{"S, as long", func(c *api.Comp) { c.S = "s\xc2" }},
	}
	for k := range 256 {
		base := laden(uint8(k))
		if !comp.Same(base, twin(base)) {
			t.Fatalf("kind %d: not the same as itself", k)
		}
		for _, c := range change {
			other := twin(base)
			c.do(&other)
			if comp.Same(base, other) || comp.Same(other, base) {
				t.Errorf("kind %d, other %s: the same", k, c.name)
			}
		}
	}
}

func TestSameOfNilAndEmptyLists(t *testing.T) {
	behind := laden(api.Put)
	behind.Path, behind.V.L, behind.V.O = behind.Path[:0], behind.V.L[:0], behind.V.O[:0]
	empty := laden(api.Put)
	empty.Path, empty.V.L, empty.V.O = []api.Step{}, []api.Val{}, []api.Field{}
	none := laden(api.Put)
	none.Path, none.V.L, none.V.O = nil, nil, nil
	all := comps(behind, empty, none)
	for _, a := range all {
		for _, b := range all {
			if !comp.Same(a, b) {
				t.Errorf("%+v is not the same as %+v", a, b)
			}
		}
	}
	a, b := laden(api.Rem), laden(api.Rem)
	b.Path[:4][3].Key, b.V.L[:4][3].S, b.V.O[:3][2].Key = "other", "other", "other"
	if !comp.Same(a, b) {
		t.Error("what lies behind a list's length counts")
	}
}
