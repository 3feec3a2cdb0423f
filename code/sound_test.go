package code_test

import (
	"math"
	"strings"
	"testing"

	"conciliator/api"
	"conciliator/code"
)

func TestSoundCreate(t *testing.T) {
	all := append(weighing(20000), null(), boolean(0), boolean(1), number(0), number(math.MinInt64), txt(""), txt("\u20ac\ufffd"), list(), object(),
		list(null(), list(number(1)), object(at("a", txt("b")), at("b", null()))), deep(0), deep(15), deep(16), list(null(), deep(15), null()))
	for _, v := range all {
		if !code.Sound(create(v)) {
			t.Errorf("Create of %s: not sound", tell(v))
		}
	}
}

func TestSoundCreateOfTooMuch(t *testing.T) {
	all := append(weighing(20001), append(weighing(20002), weighing(60000)...)...)
	all = append(all, deep(17), deep(18), deep(40), list(null(), deep(16), null()), object(at("a", null()), at("b", deep(16)), at("c", null())))
	for _, v := range all {
		if code.Sound(create(v)) {
			t.Errorf("Create of %s: sound", tell(v))
		}
	}
	for _, v := range oddValues() {
		for _, w := range []api.Val{v, list(v), list(null(), v, null()), object(at("k", v)), list(object(at("a", list(v))), null())} {
			if code.Sound(create(w)) {
				t.Errorf("Create of %s: sound", tell(w))
			}
		}
	}
}

// A Create has no components, not even those that do nothing.
func TestSoundCreateWithComponents(t *testing.T) {
	for _, v := range []api.Val{null(), number(1), list(txt("a"))} {
		e := create(v)
		for _, e.Op = range [][]api.Comp{ops(add(1)), ops(add(0)), ops(api.Comp{}), ops(put("a", null()), del("a")), ordinary()} {
			if code.Sound(e) {
				t.Errorf("Create of %s with %d components: sound", tell(v), len(e.Op))
			}
		}
		for _, e.Op = range [][]api.Comp{nil, {}, ordinary()[:0]} {
			if !code.Sound(e) {
				t.Errorf("Create of %s with an empty list: not sound", tell(v))
			}
		}
	}
}

func TestSoundEdit(t *testing.T) {
	many := make([]api.Comp, 201)
	for i := range many {
		many[i] = ordinary()[i%9]
	}
	for _, n := range []int{0, 1, 2, 9, 100, 199, 200} {
		if !code.Sound(edit(many[:n]...)) {
			t.Errorf("Edit of %d: not sound", n)
		}
	}
	if code.Sound(edit(many...)) || code.Sound(edit(append(many, many...)...)) {
		t.Error("Edit of more than 200: sound")
	}
	for _, c := range append(ordinary(), path(put("", deep(14)), nth(0)), path(add(1), make([]api.Step, 15)...), put("k", txt(strings.Repeat("x", 19999)))) {
		if !code.Sound(edit(c)) || !code.Sound(edit(c, c, c)) {
			t.Errorf("Edit of %s: not sound", tell(c))
		}
	}
	if !code.Sound(edit(ordinary()[:0]...)) || !code.Sound(api.Entry{Kind: api.Edit, Op: []api.Comp{}}) {
		t.Error("Edit of none: not sound")
	}
}

// Each component counts: the first, those in between, and the last.
func TestSoundEditOfOdd(t *testing.T) {
	odd := append(oddComps(), api.Comp{}, api.Comp{Kind: 10}, api.Comp{Kind: 255}, api.Comp{Kind: api.Add, S: "a"}, api.Comp{Kind: api.Rem, J: 1}, api.Comp{Kind: api.Del, Key: "a", V: txt("")})
	for _, c := range odd {
		if code.Sound(edit(c)) {
			t.Errorf("Edit of %s: sound", tell(c))
		}
		for i := range 5 {
			l := ordinary()[:5]
			l[i] = c
			if code.Sound(edit(l...)) {
				t.Errorf("Edit with %s at %d: sound", tell(c), i)
			}
		}
	}
	for _, i := range []int{0, 1, 100, 198, 199} {
		l := make([]api.Comp, 200)
		for k := range l {
			l[k] = add(1)
		}
		l[i] = tdel(0, 0)
		if code.Sound(edit(l...)) {
			t.Errorf("Edit of 200, one at %d not sound: sound", i)
		}
	}
}

// The V of an Edit and of a Delete is nothing: not even what is like nothing.
func TestSoundWithValues(t *testing.T) {
	all := append(oddValues(), boolean(0), boolean(1), number(0), number(1), txt(""), txt("a"), list(), list(null()), object(), object(at("", null())))
	for _, v := range all {
		for _, e := range []api.Entry{edit(), edit(add(1)), ends()} {
			e.V = v
			if code.Sound(e) {
				t.Errorf("%s: sound", tell(e))
			}
		}
	}
	for _, v := range []api.Val{{}, {L: []api.Val{}}, {O: []api.Field{}}, {L: []api.Val{number(1)}[:0], O: []api.Field{at("a", null())}[:0]}} {
		for _, e := range []api.Entry{create(null()), edit(), edit(add(1)), ends()} {
			e.V = v
			if !code.Sound(e) {
				t.Errorf("%s: not sound", tell(e))
			}
		}
	}
}

func TestSoundDelete(t *testing.T) {
	e := ends()
	for _, e.Op = range [][]api.Comp{nil, {}, ordinary()[:0]} {
		if !code.Sound(e) {
			t.Error("Delete: not sound")
		}
	}
	for _, e.Op = range [][]api.Comp{ops(add(1)), ops(add(0)), ops(api.Comp{}), ordinary()} {
		if code.Sound(e) {
			t.Errorf("Delete with %d components: sound", len(e.Op))
		}
		e.V = number(1)
		if code.Sound(e) {
			t.Error("Delete with both: sound")
		}
		e.V = null()
	}
}

func TestSoundKinds(t *testing.T) {
	for k := range 256 {
		e := api.Entry{Kind: uint8(k)}
		if code.Sound(e) != (1 <= k && k <= 3) {
			t.Errorf("kind %d: %v", k, code.Sound(e))
		}
		e.V = number(1)
		if code.Sound(e) != (k == 1) {
			t.Errorf("kind %d with a value: %v", k, code.Sound(e))
		}
		e.V, e.Op = null(), ops(add(1))
		if code.Sound(e) != (k == 2) {
			t.Errorf("kind %d with a component: %v", k, code.Sound(e))
		}
	}
}

// From whom, and with which number, is free.
func TestSoundOfAnySource(t *testing.T) {
	for _, n := range []uint32{0, 1, 1 << 31, math.MaxUint32} {
		for _, e := range []api.Entry{create(number(1)), edit(add(1)), ends()} {
			if !code.Sound(from(n, 7)(e)) || !code.Sound(from(7, n)(e)) {
				t.Errorf("kind %d, %d: not sound", e.Kind, n)
			}
		}
	}
}
