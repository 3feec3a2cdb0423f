package turn_test

import (
	"testing"

	"conciliator/api"
)

// Of the two paths none begins with the other one, or b's goes on behind a's.
func TestPathsThatDoNotBegin(t *testing.T) {
	long := func(last int) []api.Step { return append(make([]api.Step, 99), nth(last)) }
	rows := []struct{ a, b []api.Step }{
		{way(), way(nth(0))}, // b's is longer
		{way(), way(key("k"))},
		{way(), way(nth(0), key("k"), nth(1))},
		{way(nth(0)), way(nth(0), nth(0))},
		{way(key("k")), way(key("k"), key("k"))},
		{way(key("k")), way(key("k"), nth(0), nth(0), nth(0))},
		{way(key("k"), nth(0)), way(key("k"), nth(0), key("k"))},
		{long(0)[:99], long(0)},

		{way(nth(0)), way(nth(1))}, // they are as long
		{way(key("k")), way(key("m"))},
		{way(nth(0)), way(key(""))},
		{way(nth(1), nth(0)), way(nth(0), nth(0))},
		{way(nth(0), nth(1)), way(nth(0), nth(0))},
		{way(key("k"), nth(0), key("k")), way(key("k"), nth(1), key("k"))},
		{long(0), long(1)},

		{way(nth(0), nth(0)), way(nth(1))}, // a's is longer
		{way(nth(0), key("k")), way(nth(1))},
		{way(key("k"), key("k")), way(key("m"))},
		{way(key("k"), nth(0)), way(key(""))},
		{way(key("k"), nth(0)), way(nth(0))},
		{way(nth(0), nth(0), nth(0)), way(nth(0), nth(1))},
		{way(nth(0), nth(0), key("k")), way(nth(1), nth(0))},
		{way(nth(0), nth(0), nth(0), nth(0)), way(nth(0), key(""))},
		{append(long(0), nth(0)), long(1)},
	}
	for _, r := range append(rows, oneFieldOff()...) {
		for _, l := range [][]api.Comp{append(ordinary(), rem(0)), append(ladenOnes(), ins(0, txt("y")))} {
			for _, a := range l {
				for _, b := range l {
					alone(path(a, r.a...), path(b, r.b...)).holds(t)
				}
			}
		}
	}
}

// oneFieldOff are paths of which the second's last step is other than the first's there in one field alone.
func oneFieldOff() []struct{ a, b []api.Step } {
	steps := []struct{ s, other api.Step }{
		{nth(0), key("")},
		{api.Step{List: true, I: 1, Key: "k"}, api.Step{I: 1, Key: "k"}},
		{nth(1), nth(2)},
		{nth(1), api.Step{List: true, I: 1, Key: "k"}},
		{key("k"), key("K")},
		{key("k"), api.Step{I: 1, Key: "k"}},
	}
	var all []struct{ a, b []api.Step }
	for _, r := range steps {
		for _, p := range [][]api.Step{nil, way(key("m"), nth(3))} {
			for _, rest := range [][]api.Step{nil, way(nth(0)), way(key("k")), way(key("k"), nth(0))} {
				one := append(append(append(way(), p...), r.s), rest...)
				two := append(append(way(), p...), r.other)
				all = append(all, struct{ a, b []api.Step }{one, two})
			}
		}
	}
	return all
}

// rests are how a path may go on behind the step that is looked at.
func rests() [][]api.Step {
	return [][]api.Step{nil, way(nth(0)), way(key("k")), way(nth(2), nth(2), nth(2)), make([]api.Step, 30)}
}

// into is a component whose path has that step, and goes on.
func into(a api.Comp, s api.Step, rest []api.Step) api.Comp {
	return path(a, append(way(s), rest...)...)
}

// whereabouts is where the i-th of a list is behind a component: it is found there.
func whereabouts(i int, c api.Comp) (int, bool) {
	var l []int
	for k := range 20 {
		l = append(l, k)
	}
	var ahead, rest []int
	cut := func(l []int, i int) ([]int, []int) { return append([]int{}, l[:i]...), append([]int{}, l[i:]...) }
	ahead, rest = cut(l, c.I)
	switch c.Kind {
	case api.Ins:
		l = append(append(ahead, -1), rest...)
	case api.Rem:
		l = append(ahead, rest[1:]...)
	case api.Set:
		rest[0] = -1
		l = append(ahead, rest...)
	case api.Move:
		it := rest[0]
		ahead, rest = cut(append(ahead, rest[1:]...), c.J)
		l = append(append(ahead, it), rest...)
	}
	for k, x := range l {
		if x == i {
			return k, true
		}
	}
	return 0, false
}

// ofLists are components that may be done to a list of five.
func ofLists() []api.Comp {
	all := comps(ins(5, txt("y")))
	for i := range 5 {
		all = append(all, ins(i, txt("y")), rem(i), set(i, txt("y")))
		for j := range 5 {
			all = append(all, move(i, j))
		}
	}
	return all
}

// intoList is an a that goes by the i-th of the list that b works on.
func intoList(a, b api.Comp, i int, rest []api.Step) turned {
	k, there := whereabouts(i, b)
	if !there {
		return both(into(a, nth(i), rest), b)
	}
	return both(into(a, nth(i), rest), b, into(a, nth(k), rest))
}

// A step's place is ahead of, at and behind what is put in, taken out, set and moved.
func TestIntoLists(t *testing.T) {
	for _, b := range ofLists() {
		for i := range 8 {
			for _, rest := range rests() {
				for _, a := range append(ordinary(), ladenOnes()...) {
					intoList(a, b, i, rest).holds(t)
				}
			}
			intoList(add(1), b, i, nil).holdsBelow(t)
			intoList(laden(api.Move), b, i, way(key("k"))).holdsBelow(t)
			full := laden(b.Kind) // whatever b says besides
			full.I = b.I
			if b.Kind == api.Move {
				full.J = b.J
			}
			intoList(set(1, txt("x")), full, i, nil).holdsBelow(t)
		}
	}
}

func TestIntoListsByHand(t *testing.T) {
	y := txt("y")
	rows := []struct {
		b    api.Comp
		i, k int // k is below 0, if it is gone
	}{
		{ins(2, y), 1, 1}, {ins(2, y), 2, 3}, {ins(2, y), 3, 4},
		{rem(2), 1, 1}, {rem(2), 2, -1}, {rem(2), 3, 2},
		{set(2, y), 1, 1}, {set(2, y), 2, -1}, {set(2, y), 3, 3},
		{move(1, 3), 0, 0}, {move(1, 3), 1, 3}, {move(1, 3), 2, 1}, {move(1, 3), 3, 2}, {move(1, 3), 4, 4},
		{move(3, 1), 0, 0}, {move(3, 1), 1, 2}, {move(3, 1), 2, 3}, {move(3, 1), 3, 1}, {move(3, 1), 4, 4},
		{move(2, 2), 1, 1}, {move(2, 2), 2, 2}, {move(2, 2), 3, 3},
		{ins(0, y), 1<<31 - 1, 1 << 31}, {rem(0), 1<<31 - 1, 1<<31 - 2}, {rem(1<<31 - 1), 1<<31 - 1, -1}, {move(0, 1<<31-1), 0, 1<<31 - 1},
	}
	for _, r := range rows {
		for _, a := range ordinary() {
			row := both(into(a, nth(r.i), nil), r.b)
			if r.k >= 0 {
				row = both(into(a, nth(r.i), nil), r.b, into(a, nth(r.k), nil))
			}
			row.holdsBelow(t)
		}
	}
}

// Of a step into a list the place alone changes.
func TestIntoListsKeepsTheStepsRest(t *testing.T) {
	a := path(laden(api.Tins), api.Step{List: true, I: 1, Key: "k\xff"}, key("m"), nth(1))
	want := path(laden(api.Tins), api.Step{List: true, I: 2, Key: "k\xff"}, key("m"), nth(1))
	both(a, ins(0, txt("y")), want).holdsBelow(t)
	both(a, rem(1)).holdsBelow(t)
}

// someKeys are keys that are nearly the same, and others.
var someKeys = []string{"k", "", "K", "kk", "k\x00", "m", "\u00e9", "\xff"}

func TestIntoObjects(t *testing.T) {
	for _, k := range someKeys {
		full := laden(api.Put)
		full.Key = k
		for _, b := range comps(put(k, txt("y")), del(k), full, kind(api.Del, full)) {
			for _, m := range someKeys {
				for _, rest := range rests() {
					for _, a := range append(ordinary(), ladenOnes()...) {
						r := alone(into(a, key(m), rest), b)
						if m == k {
							r = both(r.a, b)
						}
						r.holds(t)
						r.a.Path[0].I = 4 // it says nothing of a step to a key
						r.holds(t)
					}
				}
				if m != k {
					alone(into(put(k, txt("x")), key(m), nil), b).holdsBelow(t)
				}
			}
			both(into(put("m", txt("x")), key(k), nil), b).holdsBelow(t)
			both(into(add(1), key(k), way(key(k))), b).holdsBelow(t)
		}
	}
}

// A step into a list is never to a key, nor the other way round; and into a number or a text there is none.
func TestIntoOtherSorts(t *testing.T) {
	steps := []api.Step{nth(0), nth(1), nth(4), {List: true, I: 1, Key: "k"}, {List: true, Key: "k"}}
	keys := []api.Step{key("k"), key(""), {I: 1, Key: "k"}, {I: 4, Key: "k"}, {I: 4}}
	for _, b := range append(append(ordinary(), ladenOnes()...), ins(0, txt("y")), rem(4), put("", txt("y")), del("")) {
		others := append(append([]api.Step{}, steps...), keys...)
		switch {
		case listKinds[b.Kind]:
			others = keys
		case b.Kind == api.Put || b.Kind == api.Del:
			others = steps
		}
		for _, s := range others {
			for _, rest := range rests() {
				for _, a := range append(ordinary(), ladenOnes()...) {
					alone(into(a, s, rest), b).holds(t)
				}
			}
			alone(into(add(1), s, nil), b).holdsBelow(t)
		}
	}
}
