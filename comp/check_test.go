package comp_test

import (
	"math"
	"math/rand"
	"testing"

	"conciliator/api"
	"conciliator/comp"
)

// refuses says that Check and Do both name this error, and that Do answers nothing beside it.
func refuses(t *testing.T, v api.Val, c api.Comp, want api.Errno) {
	t.Helper()
	if e := comp.Check(v, c); e != want {
		t.Errorf("Check(%+v, %+v) is %d, not %d", v, c, e, want)
	}
	w, e := comp.Do(v, c)
	if e != want {
		t.Errorf("Do(%+v, %+v) tells %d, not %d", v, c, e, want)
	}
	if want != api.OK && (w.Kind != 0 || w.N != 0 || w.S != "" || w.L != nil || w.O != nil) {
		t.Errorf("beside an error Do(%+v, %+v) is %+v", v, c, w)
	}
}

// fits is the kind of value to which a component of that kind may be done.
func fits(kind uint8) uint8 {
	return []uint8{0, api.Int, api.Obj, api.Obj, api.List, api.List, api.List, api.List, api.Text, api.Text}[kind]
}

// eachKind is a value of each kind: what is ordinary, and speaks of that kind, may be done to it.
func eachKind() []api.Val {
	return []api.Val{null(), boolean(1), number(5), txt("abc"), list(null(), null(), null()), object(at("k", null()))}
}

func TestCheckKinds(t *testing.T) {
	for _, v := range append(eachKind(), api.Val{Kind: 6}, api.Val{Kind: 77}, api.Val{Kind: 255}) {
		for _, c := range ordinary() {
			want := api.ErrKind
			if v.Kind == fits(c.Kind) {
				want = api.OK
			}
			refuses(t, v, c, want)
			refuses(t, list(number(1), v), path(c, nth(1)), want)
			refuses(t, object(at("a", list(v)), at("b", null())), path(c, key("a"), nth(0)), want)
		}
	}
	// the kind tells, not what is there besides
	all := api.Val{N: 5, S: "abc", L: list(null(), null(), null()).L, O: object(at("k", null())).O}
	for k := range 256 {
		all.Kind = uint8(k)
		for _, c := range ordinary() {
			want := api.ErrKind
			if all.Kind == fits(c.Kind) {
				want = api.OK
			}
			refuses(t, all, c, want)
		}
	}
}

func TestCheckKeys(t *testing.T) {
	v := object(at("", null()), at("b", number(1)), at("d", null()))
	for _, k := range []string{"", "b", "d"} {
		refuses(t, v, del(k), api.OK)
		refuses(t, list(v), path(del(k), nth(0)), api.OK)
	}
	for _, k := range []string{"\x00", "a", "bb", "c", "e", "B", "\u00e9"} {
		refuses(t, v, del(k), api.ErrKey)
		refuses(t, list(v), path(del(k), nth(0)), api.ErrKey)
		refuses(t, v, put(k, null()), api.OK)
	}
	refuses(t, object(), del(""), api.ErrKey)
	refuses(t, object(v.O[:1]...), del("b"), api.ErrKey) // what lies behind a list's length is not there
}

// okIf is no error where that holds.
func okIf(holds bool) api.Errno {
	if holds {
		return api.OK
	}
	return api.ErrPlace
}

func TestCheckPlaces(t *testing.T) {
	characters := []string{"", "\u20ac", "\u20acb", "\u20acb\U0001f600"}
	for n, s := range characters {
		l := list(make([]api.Val, n)...)
		for i := range n + 3 {
			refuses(t, l, ins(i, null()), okIf(i <= n))
			refuses(t, txt(s), tins(i, "x"), okIf(i <= n))
			for _, c := range comps(rem(i), set(i, null()), move(i, 0), move(0, i), move(i, i)) {
				refuses(t, l, c, okIf(i < n))
				refuses(t, object(at("a", l)), path(c, key("a")), okIf(i < n))
			}
			for many := range n + 3 {
				c := tdel(i, int64(many+1))
				refuses(t, txt(s), c, okIf(i+many < n))
				refuses(t, list(txt(s)), path(c, nth(0)), okIf(i+many < n))
			}
		}
		for _, c := range comps(ins(math.MaxInt, null()), rem(math.MaxInt), set(1<<32, null()), move(0, math.MaxInt), move(math.MaxInt, 0)) {
			refuses(t, l, c, api.ErrPlace)
		}
		for _, c := range comps(tins(math.MaxInt, "x"), tdel(math.MaxInt, 1), tdel(0, math.MaxInt64), tdel(1, math.MaxInt64), tdel(0, 1<<32+1), tdel(math.MaxInt, math.MaxInt64)) {
			refuses(t, txt(s), c, api.ErrPlace)
		}
	}
}

func TestCheckPaths(t *testing.T) {
	for _, c := range ordinary() {
		for _, p := range nowhere() {
			refuses(t, world(), path(c, p...), api.ErrPath)
		}
		for _, v := range append(everyKind(), oddOnes()...) {
			refuses(t, v, path(c, nth(4)), api.ErrPath)
			refuses(t, v, path(c, key("none")), api.ErrPath)
		}
		// places and keys that are there, in what is of another kind
		refuses(t, object(at("a", number(1))), path(c, nth(0)), api.ErrPath)
		refuses(t, list(number(1)), path(c, key("")), api.ErrPath)
		refuses(t, api.Val{Kind: api.List, O: object(at("a", number(1))).O}, path(c, key("a")), api.ErrPath)
		refuses(t, api.Val{Kind: api.Obj, L: list(number(1)).L}, path(c, nth(0)), api.ErrPath)
	}
}

// notSound are components that are not sound, each by one fault.
func notSound() []api.Comp {
	all := comps(api.Comp{}, api.Comp{Kind: 10}, api.Comp{Kind: 255}, api.Comp{Kind: 10, Key: "k", I: 1, V: txt("x")})
	for _, c := range ordinary() {
		one, two, three, four := c, c, c, c
		one.I, two.J, three.Key, four.V = -1, -1, "\xff", api.Val{Kind: 6}
		all = append(all, one, two, three, four, path(c, nth(-1)), path(c, key("\xff")), path(c, make([]api.Step, 17)...))
	}
	all = append(all, put("k", deep(16)), ins(0, deep(16)), set(0, deep(16)), put("k", list(make([]api.Val, 20000)...)))
	all = append(all, tins(0, ""), tins(0, "\xff"), tdel(0, 0), tdel(0, -1), api.Comp{Kind: api.Rem, S: "x"})
	return append(all, gives(txt(""), add(1)), gives(txt("x"), rem(0)))
}

func TestCheckSound(t *testing.T) {
	for _, c := range notSound() {
		for _, v := range append(eachKind(), world(), rich()) {
			refuses(t, v, c, api.ErrComp)
		}
	}
}

// Of several faults the first one is named: not sound; no such place; of another kind; no such key, or no place there.
func TestCheckNamesTheFirst(t *testing.T) {
	v := object(at("l", list(number(1))), at("n", number(1)), at("o", object()), at("t", txt("ab")))
	rows := []struct {
		c    api.Comp
		want api.Errno
	}{
		// not sound, and: it leads nowhere; it is of another kind; there is no such key, no such place
		{path(tdel(9, 0), key("none")), api.ErrComp},
		{path(tdel(9, 0), key("n")), api.ErrComp},
		{path(tdel(9, 0), key("t")), api.ErrComp},
		{path(tins(9, ""), key("t")), api.ErrComp},
		{path(del("\xff"), key("none")), api.ErrComp},
		{path(del("\xff"), key("n")), api.ErrComp},
		{path(del("\xff"), key("o")), api.ErrComp},
		{path(ins(9, api.Val{Kind: 6}), key("none")), api.ErrComp},
		{path(ins(9, api.Val{Kind: 6}), key("n")), api.ErrComp},
		{path(ins(9, api.Val{Kind: 6}), key("l")), api.ErrComp},
		{path(set(-1, null()), key("l")), api.ErrComp},
		{path(set(-1, null()), key("n")), api.ErrComp},
		{path(rem(-1), key("none")), api.ErrComp},
		{path(move(-1, 9), key("l")), api.ErrComp},
		{path(move(9, -1), key("t")), api.ErrComp},
		{path(put("k", deep(15)), key("none")), api.ErrComp},
		{path(put("k", deep(15)), key("n")), api.ErrComp},
		{path(add(1), key("none"), nth(-1)), api.ErrComp},
		{path(api.Comp{Kind: 10, I: 9}, key("none")), api.ErrComp},
		{path(api.Comp{Kind: 10, I: 9}, key("n")), api.ErrComp},
		// it leads nowhere, and there would be no key, no place, no kind
		{path(del("none"), key("none")), api.ErrPath},
		{path(del("none"), key("o"), key("none")), api.ErrPath},
		{path(rem(9), key("none")), api.ErrPath},
		{path(rem(9), key("l"), nth(1)), api.ErrPath},
		{path(tdel(9, 9), key("l"), nth(7)), api.ErrPath},
		// of another kind, and there is no key, no place
		{path(del("none"), key("l")), api.ErrKind},
		{path(del("none"), key("n")), api.ErrKind},
		{path(rem(9), key("o")), api.ErrKind},
		{path(rem(9), key("t")), api.ErrKind},
		{path(set(9, null()), key("n")), api.ErrKind},
		{path(ins(9, null()), key("t")), api.ErrKind},
		{path(move(9, 9), key("o")), api.ErrKind},
		{path(tins(9, "x"), key("l")), api.ErrKind},
		{path(tdel(9, 9), key("n")), api.ErrKind},
		{path(tdel(9, 9), key("l")), api.ErrKind},
		// the last of them
		{path(del("none"), key("o")), api.ErrKey},
		{path(rem(9), key("l")), api.ErrPlace},
		{path(tdel(9, 9), key("t")), api.ErrPlace},
	}
	for _, r := range rows {
		refuses(t, v, r.c, r.want)
	}
}

// Check and Do name the same error, whatever they are given.
func TestCheckAndDoAgree(t *testing.T) {
	all := attempts()
	for _, p := range append(paths(world()), nowhere()...) {
		for _, c := range all {
			_, want := plainDo(world(), path(c, p...))
			refuses(t, world(), path(c, p...), want)
		}
	}
	r := rand.New(rand.NewSource(3))
	had := map[api.Errno]int{}
	for range 100000 {
		v := chance(r, 3)
		c := chanceComp(r, v)
		_, want := plainDo(v, c)
		refuses(t, v, c, want)
		had[want]++
	}
	for _, e := range []api.Errno{api.OK, api.ErrComp, api.ErrPath, api.ErrKind, api.ErrKey, api.ErrPlace} {
		if had[e] < 300 {
			t.Errorf("error %d came %d times", e, had[e])
		}
	}
}
