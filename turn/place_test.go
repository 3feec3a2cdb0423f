package turn_test

import (
	"testing"

	"conciliator/api"
	"conciliator/seq"
	"conciliator/text"
	"conciliator/turn"
)

// Both work on the same value.

// The chapter's examples.
func TestExamples(t *testing.T) {
	both(path(add(1), nth(1)), ins(0, txt("y")), path(add(1), nth(2))).holds(t)
	leftAlone(put("a", number(1)), put("a", number(2))).holds(t)
}

var listKinds = map[uint8]bool{api.Ins: true, api.Rem: true, api.Set: true, api.Move: true}
var textKinds = map[uint8]bool{api.Tins: true, api.Tdel: true}

// turnedThere is what the chapter says of two at the same place, by their kinds.
func turnedThere(a, b api.Comp) turned {
	oneKey := a.Key == b.Key
	switch {
	case listKinds[a.Kind] && listKinds[b.Kind]:
		return turned{a, b, seq.Turn(a, b, true), seq.Turn(a, b, false)}
	case textKinds[a.Kind] && textKinds[b.Kind]:
		return turned{a, b, text.Turn(a, b, true), text.Turn(a, b, false)}
	case a.Kind == api.Put && b.Kind == api.Put && oneKey:
		return leftAlone(a, b)
	case a.Kind == api.Del && (b.Kind == api.Put || b.Kind == api.Del) && oneKey:
		return both(a, b)
	}
	return alone(a, b)
}

// Each of all kinds, behind each of all kinds.
func TestSamePlace(t *testing.T) {
	for _, l := range [][]api.Comp{ordinary(), ladenOnes(), append(ordinary(), odd()...)} {
		for _, a := range l {
			for _, b := range l {
				turnedThere(a, b).holdsBelow(t)
			}
		}
	}
	for _, a := range ladenOnes() {
		for _, b := range ladenOnes() {
			b.Key, b.I, b.J, b.N = "", 2, 3, 4
			turnedThere(a, b).holdsBelow(t)
			turnedThere(b, a).holdsBelow(t)
		}
	}
}

func TestSameKey(t *testing.T) {
	for _, k := range []string{"k", "", "\u00e9", "\xff"} {
		x, y, d := put(k, txt("x")), put(k, txt("y")), del(k)
		rows := []turned{
			leftAlone(x, y),
			leftAlone(x, x),
			alone(x, d),
			both(d, x),
			both(d, d),
		}
		for _, r := range rows {
			r.holdsBelow(t)
			r.b.I, r.b.J, r.b.N, r.b.S, r.b.V = 1, 2, 3, "s", rich() // whatever b says besides
			r.holdsBelow(t)
		}
	}
}

func TestOtherKey(t *testing.T) {
	for _, k := range []string{"k", ""} {
		for _, m := range []string{"m", "K", "kk", "k\x00", "\xff"} {
			for _, a := range comps(put(k, txt("x")), del(k)) {
				for _, b := range comps(put(m, txt("y")), del(m)) {
					alone(a, b).holdsBelow(t)
					alone(b, a).holdsBelow(t)
				}
			}
		}
	}
}

func TestLists(t *testing.T) {
	x, y := txt("x"), txt("y")
	rows := []turned{
		both(ins(2, x), ins(1, y), ins(3, x)),
		either(ins(2, x), ins(2, y), ins(2, x), ins(3, x)),
		both(ins(2, x), ins(3, y), ins(2, x)),
		both(ins(2, x), rem(0), ins(1, x)),
		both(ins(2, x), rem(2), ins(2, x)),
		both(ins(2, x), set(2, y), ins(2, x)),
		both(ins(2, x), move(0, 5), ins(1, x)),
		both(rem(2), ins(2, y), rem(3)),
		both(rem(2), rem(1), rem(1)),
		both(rem(2), rem(2)),
		both(rem(2), set(2, y), rem(2)),
		both(rem(2), move(2, 5), rem(5)),
		both(set(2, x), ins(0, y), set(3, x)),
		both(set(2, x), rem(2)),
		leftAlone(set(2, x), set(2, y)),
		both(set(2, x), set(3, y), set(2, x)),
		both(set(2, x), move(4, 0), set(3, x)),
		both(move(0, 2), ins(1, y), move(0, 3)),
		both(move(2, 5), rem(2)),
		both(move(2, 5), rem(3), move(2, 4)),
		both(move(2, 5), set(2, y), move(2, 5)),
		{move(2, 5), move(2, 0), comps(move(0, 5)), nil},
		both(move(2, 5), move(0, 1), move(2, 5)),
		either(move(2, 5), move(3, 5), move(2, 4), move(2, 5)),
	}
	for _, r := range rows {
		r.holdsBelow(t)
	}
}

func TestTexts(t *testing.T) {
	x, y := "xxx", "y\u20ac" // of y there are two characters
	rows := []turned{
		both(tins(3, x), tins(2, y), tins(5, x)),
		either(tins(3, x), tins(3, y), tins(3, x), tins(5, x)), // at one place
		both(tins(3, x), tins(4, y), tins(3, x)),
		both(tins(3, x), tdel(0, 2), tins(1, x)),
		both(tins(3, x), tdel(0, 3), tins(0, x)),
		both(tins(3, x), tdel(1, 4), tins(1, x)), // it lies within
		both(tins(3, x), tdel(3, 2), tins(3, x)),
		both(tins(3, x), tdel(4, 2), tins(3, x)),
		both(tdel(3, 4), tins(0, y), tdel(5, 4)),
		both(tdel(3, 4), tins(3, y), tdel(5, 4)),
		both(tdel(3, 4), tins(4, y), tdel(3, 1), tdel(5, 3)), // it is cut in two
		both(tdel(3, 4), tins(6, y), tdel(3, 3), tdel(5, 1)),
		both(tdel(3, 4), tins(7, y), tdel(3, 4)),
		both(tdel(3, 4), tins(8, y), tdel(3, 4)),
		both(tdel(3, 4), tdel(0, 3), tdel(0, 4)),
		both(tdel(3, 4), tdel(0, 2), tdel(1, 4)),
		both(tdel(3, 4), tdel(1, 3), tdel(1, 3)),
		both(tdel(3, 4), tdel(3, 4)),             // the same
		both(tdel(3, 4), tdel(2, 6)),             // b lies around it
		both(tdel(3, 4), tdel(4, 2), tdel(3, 2)), // within it
		both(tdel(3, 4), tdel(5, 3), tdel(3, 2)),
		both(tdel(3, 4), tdel(7, 1), tdel(3, 4)),
	}
	for _, r := range rows {
		r.holdsBelow(t)
	}
}

// Of one that is cut in two each has all that the one had, but for its place and how much it takes.
func TestBothHalvesKeepTheRest(t *testing.T) {
	a, b := laden(api.Tdel), tins(5, "xy")
	one, two := laden(api.Tdel), laden(api.Tdel)
	one.N = 1
	two.I, two.N = 6, 2
	both(a, b, one, two).holdsBelow(t)
}

// left matters at the same place alone, and there to those that the chapter names.
func TestLeftMatters(t *testing.T) {
	n := 0
	for _, a := range ordinary() {
		for _, b := range ordinary() {
			if !alike(turn.Turn(a, b, true), turn.Turn(a, b, false)) {
				n++
			}
		}
	}
	if n != 5 { // Put, Ins, Set, Move and Tins, each behind one of its kind
		t.Errorf("%d", n)
	}
}
