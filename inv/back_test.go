package inv_test

import (
	"math/rand"
	"testing"

	"conciliator/api"
	"conciliator/inv"
	"conciliator/op"
)

// What holds: done behind an operation, it brings the value back; what undoes what undoes it does what it did.

// brings says so of one operation that may be done to a value.
func brings(t *testing.T, v api.Val, l []api.Comp) {
	t.Helper()
	undo, e := inv.All(v, l)
	if e != api.OK || len(undo) != len(l) {
		t.Fatalf("All(%+v, %+v): %+v, %d", v, l, undo, e)
	}
	w := do(t, v, l)
	if back := do(t, w, undo); !alikeValues(back, v) {
		t.Fatalf("%+v done behind %+v makes %+v of %+v", undo, l, back, v)
	}
	redo, e := inv.All(w, undo)
	if e != api.OK || len(redo) != len(l) {
		t.Fatalf("All(%+v, %+v): %+v, %d", w, undo, redo, e)
	}
	if again := do(t, v, redo); !alikeValues(again, w) {
		t.Fatalf("%+v does to %+v what is not what %+v did: %+v", redo, v, l, again)
	}
	if again, e := inv.All(v, redo); e != api.OK || !alike(again, undo) {
		t.Fatalf("%+v undoes %+v, and is not %+v", again, redo, undo)
	}
	// one by one, the last one first: at each step back it is as it was there
	for n := len(l) - 1; n >= 0; n-- {
		if back, was := do(t, w, undo[:len(l)-n]), do(t, v, l[:n]); !alikeValues(back, was) {
			t.Fatalf("%+v back from %+v: %+v, not %+v", undo[:len(l)-n], l, back, was)
		}
	}
}

func TestBringsBack(t *testing.T) {
	r := rand.New(rand.NewSource(5))
	count := map[uint8]int{}
	for range 12000 {
		v := chance(r, 3)
		l := chanceOp(r, v, 7)
		for _, c := range l {
			count[c.Kind]++
		}
		brings(t, v, l)
	}
	for k := api.Add; k <= api.Tdel; k++ {
		if count[k] < 300 {
			t.Errorf("kind %d came %d times", k, count[k])
		}
	}
}

func TestBringsBackMany(t *testing.T) {
	r := rand.New(rand.NewSource(6))
	for range 30 {
		v := list(txt("a\u20acb"), number(1), object(at("a", list(txt("x"), txt("y")))))
		var l []api.Comp
		for w := v; len(l) < 200; w = do(t, v, l) {
			more := chanceOp(r, w, min(9, 200-len(l)))
			l = behind(l, more)
		}
		if len(l) != 200 {
			t.Fatal("the test itself is wrong")
		}
		undo, e := inv.All(v, l)
		if e != api.OK || !alikeValues(do(t, do(t, v, l), undo), v) {
			t.Fatalf("%d", e)
		}
	}
}

// Each component that may be done to some small values, at each place, and two of them.
func TestBringsBackEach(t *testing.T) {
	v := object(at("", number(3)), at("l", list(number(1), txt("\u20acb"), object(at("k", txt("z"))))), at("o", object(at("a", list()), at("c", number(-1)))))
	var some []api.Comp
	for _, p := range paths(v) {
		for i := range 4 {
			some = append(some, path(ins(i, txt("n")), p...), path(rem(i), p...), path(set(i, txt("s")), p...), path(tins(i, "\u00e9t"), p...), path(add(int64(i)-1), p...))
			for j := range 4 {
				some = append(some, path(move(i, j), p...), path(tdel(i, int64(j)), p...))
			}
		}
		for _, k := range []string{"", "a", "b", "c", "k", "l", "o", "z"} {
			some = append(some, path(put(k, list(number(6))), p...), path(del(k), p...))
		}
	}
	fine := 0
	for _, c := range some {
		if op.Check(v, ops(c)) != api.OK {
			continue
		}
		brings(t, v, ops(c))
		fine++
		w := do(t, v, ops(c))
		for _, d := range some {
			if op.Check(w, ops(d)) == api.OK {
				brings(t, v, ops(c, d))
			}
		}
	}
	if fine < 50 {
		t.Errorf("%d may be done", fine)
	}
}

// The example of the chapter.
func TestChapterExample(t *testing.T) {
	v := object(at("a", number(1)))
	for _, r := range []struct {
		v    api.Val
		want api.Comp
	}{{v, put("a", number(1))}, {object(), del("a")}} {
		got, e := inv.Turned(r.v, put("a", number(2)))
		if e != api.OK || !alike(ops(got), ops(r.want)) {
			t.Errorf("%+v, %d", got, e)
		}
	}
	brings(t, v, ops(put("a", number(2))))
	brings(t, object(), ops(put("a", number(2))))
}
