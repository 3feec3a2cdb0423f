package turn_test

import (
	"math/rand"
	"reflect"
	"testing"

	"conciliator/api"
	"conciliator/comp"
	"conciliator/json"
	"conciliator/turn"
)

// doAll does components, one behind the other: each may be done.
func doAll(t *testing.T, v api.Val, all []api.Comp) api.Val {
	t.Helper()
	for _, c := range all {
		w, e := comp.Do(v, c)
		if e != api.OK {
			t.Fatalf("Do(%+v, %+v) tells %d, of %+v", v, c, e, all)
		}
		v = w
	}
	return v
}

// bothWays holds two ways against each other: a, and b behind it, and b, and a behind it.
func bothWays(t *testing.T, v api.Val, a, b api.Comp, left bool) api.Val {
	t.Helper()
	one := doAll(t, doAll(t, v, comps(a)), turn.Turn(b, a, !left))
	two := doAll(t, doAll(t, v, comps(b)), turn.Turn(a, b, left))
	if !reflect.DeepEqual(twinValue(one), twinValue(two)) {
		t.Fatalf("%+v, %+v and %+v, left %v: %+v and %+v", v, a, b, left, one, two)
	}
	return one
}

// here are components of all kinds that may be done to a value itself, giving x.
func here(v, x api.Val) []api.Comp {
	all := comps(add(5), put("new", x))
	for _, f := range v.O {
		all = append(all, put(f.Key, x), del(f.Key))
	}
	for i := range 6 {
		all = append(all, ins(i, x), rem(i), set(i, x), tins(i, "x\u20ac"))
		for j := range 6 {
			all = append(all, move(i, j), tdel(i, int64(j)))
		}
	}
	return all
}

// possible are those that may be done anywhere in a value.
func possible(v, x api.Val) []api.Comp {
	var all []api.Comp
	for _, p := range paths(v) {
		at := v
		for _, s := range p {
			at = step(at, s)
		}
		for _, c := range here(at, x) {
			c = path(c, p...)
			if comp.Check(v, c) == api.OK {
				all = append(all, c)
			}
		}
	}
	return all
}

func step(v api.Val, s api.Step) api.Val {
	if s.List {
		return v.L[s.I]
	}
	for _, f := range v.O {
		if f.Key == s.Key {
			return f.V
		}
	}
	return api.Val{}
}

func TestBothWays(t *testing.T) {
	worlds := []string{
		`1`, "\"ab\u20acd\"", `[]`, `{}`, `null`,
		`[1,"ab",[2,[]],{"k":[3]}]`,
		`{"":"ab","l":[1,[[],{}],{"k":-7}],"o":{"d":["x",2]}}`,
		`[[[1,2],[3]],[[]],"abc"]`,
		`{"a":{"a":{"a":1,"b":"ab"},"b":2},"b":[{"a":[1,2]}]}`,
	}
	n := map[uint8]int{}
	for _, s := range worlds[:2] {
		worlds = append(worlds, `[`+s+`]`, `{"k":`+s+`,"new":`+s+`}`)
	}
	for _, s := range worlds {
		v := value(t, s)
		all := possible(v, txt("x"))
		others := possible(v, list(number(9), txt("y")))
		for _, a := range all {
			n[a.Kind]++
			for _, b := range others {
				bothWays(t, v, a, b, true)
				bothWays(t, v, a, b, false)
			}
		}
	}
	for k := api.Add; k <= api.Tdel; k++ {
		if n[k] < 5 {
			t.Errorf("%d of kind %d", n[k], k)
		}
	}
}

// As deep as paths go.
func TestBothWaysFarDown(t *testing.T) {
	for _, v := range []api.Val{number(1), txt("ab")} {
		for i := range api.MaxDeep - 1 {
			if i%3 == 1 {
				v = object(at("k", v))
			} else {
				v = list(v)
			}
		}
		all := possible(v, api.Val{})
		if longest := len(all[len(all)-1].Path); longest != api.MaxDeep-1 {
			t.Errorf("%d steps at most", longest)
		}
		for _, a := range all {
			for _, b := range all {
				bothWays(t, v, a, b, true)
				bothWays(t, v, a, b, false)
			}
		}
	}
}

// Many values, and pairs of components: most often one leads to where the other one does, or further.
func TestBothWaysByChance(t *testing.T) {
	r := rand.New(rand.NewSource(7))
	met := 0
	for range 60000 {
		v := chance(r, 4)
		all := paths(v)
		p := all[r.Intn(len(all))]
		at := v
		for _, s := range p {
			at = step(at, s)
		}
		q := p
		if more := paths(at); r.Intn(3) > 0 {
			q = append(append(way(), p...), more[r.Intn(len(more))]...)
		}
		other := v
		for _, s := range q {
			other = step(other, s)
		}
		a, b := path(chanceComp(r, at), p...), path(chanceComp(r, other), q...)
		if comp.Check(v, a) != api.OK || comp.Check(v, b) != api.OK {
			continue
		}
		met++
		for _, left := range []bool{true, false} {
			bothWays(t, v, a, b, left)
		}
	}
	if met < 20000 {
		t.Errorf("%d pairs", met)
	}
}

// Where both can't have their way, the left one has it.
func TestBothWaysAsMeant(t *testing.T) {
	const whole = `{"l":[1,"ab",[2]],"n":7}`
	x, y := txt("x"), txt("y")
	l := func(c api.Comp) api.Comp { return path(c, key("l")) }
	in := func(c api.Comp, i int) api.Comp { return path(c, key("l"), nth(i)) }
	rows := []struct {
		a, b        api.Comp
		left, right string // right is empty, if it is the same
	}{
		{put("n", x), put("n", y), `{"l":[1,"ab",[2]],"n":"x"}`, `{"l":[1,"ab",[2]],"n":"y"}`},
		{put("n", x), del("n"), `{"l":[1,"ab",[2]],"n":"x"}`, ``},
		{del("n"), del("n"), `{"l":[1,"ab",[2]]}`, ``},
		{put("n", x), put("m", y), `{"l":[1,"ab",[2]],"m":"y","n":"x"}`, ``},
		{put("n", x), path(add(1), key("n")), `{"l":[1,"ab",[2]],"n":"x"}`, ``},
		{del("n"), path(add(1), key("n")), `{"l":[1,"ab",[2]]}`, ``},
		{del("l"), in(add(1), 0), `{"n":7}`, ``},
		{put("l", x), in(tins(1, "z"), 1), `{"l":"x","n":7}`, ``},
		{path(add(1), key("n")), path(add(2), key("n")), `{"l":[1,"ab",[2]],"n":10}`, ``},
		{l(ins(0, x)), l(ins(0, y)), `{"l":["x","y",1,"ab",[2]],"n":7}`, `{"l":["y","x",1,"ab",[2]],"n":7}`},
		{l(ins(0, x)), in(add(1), 0), `{"l":["x",2,"ab",[2]],"n":7}`, ``},
		{l(ins(1, x)), in(add(1), 0), `{"l":[2,"x","ab",[2]],"n":7}`, ``},
		{l(rem(0)), in(tins(1, "z"), 1), `{"l":["azb",[2]],"n":7}`, ``},
		{l(rem(1)), in(tins(1, "z"), 1), `{"l":[1,[2]],"n":7}`, ``},
		{l(set(2, x)), in(ins(0, y), 2), `{"l":[1,"ab","x"],"n":7}`, ``},
		{l(set(0, x)), in(ins(0, y), 2), `{"l":["x","ab",["y",2]],"n":7}`, ``},
		{l(move(2, 0)), in(ins(1, y), 2), `{"l":[[2,"y"],1,"ab"],"n":7}`, ``},
		{l(move(2, 0)), path(add(1), key("l"), nth(2), nth(0)), `{"l":[[3],1,"ab"],"n":7}`, ``},
		{l(move(0, 2)), in(ins(1, y), 2), `{"l":["ab",[2,"y"],1],"n":7}`, ``},
		{in(tins(1, "x"), 1), in(tins(1, "y"), 1), `{"l":[1,"axyb",[2]],"n":7}`, `{"l":[1,"ayxb",[2]],"n":7}`},
		{in(tdel(0, 2), 1), in(tins(1, "y"), 1), `{"l":[1,"y",[2]],"n":7}`, ``},
	}
	for _, r := range rows {
		if r.right == "" {
			r.right = r.left
		}
		v := value(t, whole)
		if s, _ := json.Encode(bothWays(t, v, r.a, r.b, true)); s != r.left {
			t.Errorf("%+v and %+v, left: %s", r.a, r.b, s)
		}
		if s, _ := json.Encode(bothWays(t, v, r.a, r.b, false)); s != r.right {
			t.Errorf("%+v and %+v, not left: %s", r.a, r.b, s)
		}
	}
}
