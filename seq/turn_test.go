package seq_test

import (
	"reflect"
	"slices"
	"testing"

	"conciliator/api"
	"conciliator/seq"
)

// turned is a, behind b: what is to be done if a is left, and if it is not.
type turned struct {
	a, b        api.Comp
	left, right []api.Comp
}

// both is for those where it does not matter.
func both(a, b api.Comp, want ...api.Comp) turned { return turned{a, b, want, want} }

// either is for those where something is to be done both ways, but not the same.
func either(a, b, left, right api.Comp) turned { return turned{a, b, comps(left), comps(right)} }

// leftAlone is for those where something is to be done by the left one alone.
func leftAlone(a, b api.Comp, left api.Comp) turned { return turned{a, b, comps(left), nil} }

func insBehindAny() []turned {
	x := ins(3, "x")
	return []turned{
		both(x, ins(0, "y"), ins(4, "x")),
		both(x, ins(2, "y"), ins(4, "x")),
		either(x, ins(3, "y"), ins(3, "x"), ins(4, "x")),
		both(x, ins(4, "y"), ins(3, "x")),
		either(ins(0, "x"), ins(0, "y"), ins(0, "x"), ins(1, "x")),
		both(ins(0, "x"), ins(1, "y"), ins(0, "x")),
		either(x, x, ins(3, "x"), ins(4, "x")),
		either(to(9, x), to(0, ins(3, "y")), to(9, ins(3, "x")), to(9, ins(4, "x"))), // J of no Move says nothing, and stays
		both(ins(most, "x"), ins(0, "y"), ins(most+1, "x")),
		either(ins(most, "x"), ins(most, "y"), ins(most, "x"), ins(most+1, "x")),
		both(ins(most-1, "x"), ins(most, "y"), ins(most-1, "x")),

		both(x, rem(0), ins(2, "x")),
		both(x, rem(2), ins(2, "x")),
		both(x, rem(3), ins(3, "x")),
		both(x, rem(4), ins(3, "x")),
		both(ins(0, "x"), rem(0), ins(0, "x")),
		both(to(9, x), to(0, rem(3)), to(9, ins(3, "x"))),
		both(ins(most, "x"), rem(0), ins(most-1, "x")),
		both(ins(most, "x"), rem(most), ins(most, "x")),

		both(x, set(0, "y"), ins(3, "x")),
		both(x, set(2, "y"), ins(3, "x")),
		both(x, set(3, "y"), ins(3, "x")),
		both(x, set(4, "y"), ins(3, "x")),
		both(ins(most, "x"), set(most, "y"), ins(most, "x")),
	}
}

func insBehindMove() []turned {
	x := ins(3, "x")
	return []turned{
		both(x, move(0, 0), ins(3, "x")),
		both(x, move(0, 1), ins(3, "x")),
		either(x, move(0, 2), ins(2, "x"), ins(3, "x")),
		both(x, move(0, 3), ins(2, "x")),
		either(x, move(2, 2), ins(2, "x"), ins(3, "x")),
		both(x, move(2, 3), ins(2, "x")),
		both(x, move(3, 2), ins(4, "x")),
		either(x, move(3, 3), ins(3, "x"), ins(4, "x")),
		both(x, move(3, 4), ins(3, "x")),
		both(x, move(4, 2), ins(4, "x")),
		either(x, move(4, 3), ins(3, "x"), ins(4, "x")),
		both(x, move(4, 4), ins(3, "x")),
		both(x, move(5, 0), ins(4, "x")),
		either(ins(0, "x"), move(0, 0), ins(0, "x"), ins(1, "x")),
		either(to(9, x), move(4, 3), to(9, ins(3, "x")), to(9, ins(4, "x"))),
		both(ins(most, "x"), move(0, most), ins(most-1, "x")),
		both(ins(most, "x"), move(most, 0), ins(most+1, "x")),
		both(ins(most, "x"), move(0, 0), ins(most, "x")),
		either(ins(most, "x"), move(0, most-1), ins(most-1, "x"), ins(most, "x")),
		either(ins(most, "x"), move(most, most), ins(most, "x"), ins(most+1, "x")),
		either(ins(0, "x"), move(most, 0), ins(0, "x"), ins(1, "x")),
		both(ins(0, "x"), move(0, most), ins(0, "x")),
	}
}

// oneBehindAny is of Rem and Set, which are where At says.
func oneBehindAny() []turned {
	var all []turned
	for _, r := range allWhereabouts() {
		a, z := rem(r.i), to(8, set(r.i, "x"))
		switch {
		case r.want >= 0:
			all = append(all, both(a, r.c, place(r.want, a)), both(z, r.c, place(r.want, z)))
		case r.c.Kind == api.Rem:
			all = append(all, both(a, r.c), both(z, r.c))
		default: // both stand at it
			all = append(all, both(a, r.c, a), leftAlone(z, r.c, z))
		}
	}
	return append(all, leftAlone(set(3, "x"), set(3, "x"), set(3, "x")))
}

func moveBehindIns() []turned {
	return []turned{
		both(move(0, 2), ins(1, "y"), move(0, 3)), // the chapter's example
		both(move(2, 5), ins(0, "y"), move(3, 6)),
		both(move(2, 5), ins(2, "y"), move(3, 6)),
		both(move(2, 5), ins(3, "y"), move(2, 6)),
		both(move(2, 5), ins(5, "y"), move(2, 6)),
		either(move(2, 5), ins(6, "y"), move(2, 5), move(2, 6)),
		both(move(2, 5), ins(7, "y"), move(2, 5)),
		both(move(5, 2), ins(1, "y"), move(6, 3)),
		either(move(5, 2), ins(2, "y"), move(6, 2), move(6, 3)),
		both(move(5, 2), ins(3, "y"), move(6, 2)),
		both(move(5, 2), ins(5, "y"), move(6, 2)),
		both(move(5, 2), ins(6, "y"), move(5, 2)),
		both(move(3, 3), ins(2, "y"), move(4, 4)),
		either(move(3, 3), ins(3, "y"), move(4, 3), move(4, 4)),
		either(move(3, 3), ins(4, "y"), move(3, 3), move(3, 4)),
		both(move(3, 3), ins(5, "y"), move(3, 3)),
		either(move(0, 0), ins(0, "y"), move(1, 0), move(1, 1)),
		both(move(2, 5), to(2, ins(3, "y")), move(2, 6)),
		both(move(most, most), ins(0, "y"), move(most+1, most+1)),
		either(move(most, most), ins(most, "y"), move(most+1, most), move(most+1, most+1)),
		both(move(0, most), ins(most, "y"), move(0, most+1)),
		both(move(most, 0), ins(most, "y"), move(most+1, 0)),
	}
}

func moveBehindRemAndSet() []turned {
	return []turned{
		both(move(2, 5), rem(0), move(1, 4)),
		both(move(2, 5), rem(1), move(1, 4)),
		both(move(2, 5), rem(2)),
		both(move(2, 5), rem(3), move(2, 4)),
		both(move(2, 5), rem(5), move(2, 4)),
		both(move(2, 5), rem(6), move(2, 5)),
		both(move(2, 5), rem(7), move(2, 5)),
		both(move(5, 2), rem(0), move(4, 1)),
		both(move(5, 2), rem(1), move(4, 1)),
		both(move(5, 2), rem(2), move(4, 2)),
		both(move(5, 2), rem(3), move(4, 2)),
		both(move(5, 2), rem(5)),
		both(move(5, 2), rem(6), move(5, 2)),
		both(move(3, 3), rem(2), move(2, 2)),
		both(move(3, 3), rem(3)),
		both(move(3, 3), rem(4), move(3, 3)),
		both(move(2, 5), to(0, rem(3)), move(2, 4)),
		both(move(most, most), rem(0), move(most-1, most-1)),
		both(move(most, most), rem(most)),
		both(move(0, most), rem(most), move(0, most-1)),

		both(move(2, 5), set(1, "y"), move(2, 5)),
		both(move(2, 5), set(2, "y"), move(2, 5)), // of what b Sets it stays
		both(move(2, 5), set(3, "y"), move(2, 5)),
		both(move(2, 5), set(5, "y"), move(2, 5)),
		both(move(2, 5), set(6, "y"), move(2, 5)),
		both(move(5, 2), set(5, "y"), move(5, 2)),
		both(move(3, 3), set(3, "y"), move(3, 3)),
		both(move(most, 0), set(most, "y"), move(most, 0)),
	}
}

func moveBehindMove() []turned {
	return []turned{
		both(move(1, 4), move(2, 0), move(2, 4)),
		both(move(1, 4), move(3, 5), move(1, 3)),
		both(move(1, 4), move(5, 4), move(1, 5)),
		either(move(1, 4), move(5, 5), move(1, 4), move(1, 5)),
		both(move(4, 1), move(0, 3), move(4, 0)),
		either(move(4, 1), move(2, 1), move(4, 1), move(4, 2)),
		either(move(0, 0), move(1, 1), move(0, 0), move(0, 1)),
		both(move(0, 5), move(5, 0), move(1, 5)),
		both(move(5, 0), move(0, 5), move(4, 0)),

		leftAlone(move(2, 5), move(2, 0), move(0, 5)), // the same one
		leftAlone(move(2, 5), move(2, 5), move(5, 5)),
		leftAlone(move(2, 2), move(2, 4), move(4, 2)),
		leftAlone(move(2, 5), move(2, 2), move(2, 5)),
		leftAlone(move(0, 0), move(0, 0), move(0, 0)),
		leftAlone(move(5, 0), move(5, 3), move(3, 0)),

		both(move(most, 0), move(0, most), move(most-1, 0)),
		both(move(0, most), move(most, 0), move(1, most)),
		either(move(most, most), move(0, most), move(most-1, most-1), move(most-1, most)),
		leftAlone(move(most, most), move(most, 0), move(0, most)),
		leftAlone(move(0, most), move(0, most), move(most, most)),
	}
}

func allTurned() []turned {
	var all []turned
	for _, l := range [][]turned{insBehindAny(), insBehindMove(), oneBehindAny(), moveBehindIns(), moveBehindRemAndSet(), moveBehindMove()} {
		all = append(all, l...)
	}
	return all
}

// alike says whether two lists of components are the same; nil and empty ones are.
func alike(a, b []api.Comp) bool { return reflect.DeepEqual(twins(a), twins(b)) }

func TestTurn(t *testing.T) {
	for _, r := range allTurned() {
		if got := seq.Turn(r.a, r.b, true); !alike(got, r.left) {
			t.Errorf("%+v behind %+v, left: %+v", r.a, r.b, got)
		}
		if got := seq.Turn(r.a, r.b, false); !alike(got, r.right) {
			t.Errorf("%+v behind %+v, not left: %+v", r.a, r.b, got)
		}
	}
}

// full is a component with something in each field, whatever its kind speaks of.
func full(c api.Comp) api.Comp {
	c = laden(c)
	c.V = rich()
	return c
}

// What a has besides stays as it is, whatever it is, and what b has besides says nothing.
func TestTurnLeavesTheRest(t *testing.T) {
	for _, r := range allTurned() {
		for left, want := range map[bool][]api.Comp{true: r.left, false: r.right} {
			a, want := full(r.a), twins(want)
			for i := range want {
				where, j := want[i].I, want[i].J
				want[i] = a
				want[i].I = where
				if a.Kind == api.Move {
					want[i].J = j
				}
			}
			if got := seq.Turn(a, r.b, left); !alike(got, want) {
				t.Errorf("%+v behind %+v: %+v", a, r.b, got)
			}
			if got := seq.Turn(a, full(r.b), left); !alike(got, want) {
				t.Errorf("%+v behind %+v: %+v", a, full(r.b), got)
			}
		}
	}
}

// A component that has a kind of another layer, or none, is left alone, and leaves others alone.
func TestTurnOfOtherKinds(t *testing.T) {
	rows := comps(ins(3, "x"), rem(3), set(3, "x"), move(3, 1), move(1, 3), rem(-1), full(ins(0, "x")), full(move(2, 2)))
	for _, k := range otherKinds() {
		for _, a := range rows {
			for _, b := range rows {
				for _, left := range []bool{true, false} {
					if got := seq.Turn(kind(k, a), b, left); !alike(got, comps(kind(k, a))) {
						t.Fatalf("%+v behind %+v: %+v", kind(k, a), b, got)
					}
					if got := seq.Turn(a, kind(k, b), left); !alike(got, comps(a)) {
						t.Fatalf("%+v behind %+v: %+v", a, kind(k, b), got)
					}
					if got := seq.Turn(kind(k, a), kind(k, b), left); !alike(got, comps(kind(k, a))) {
						t.Fatalf("%+v behind %+v: %+v", kind(k, a), kind(k, b), got)
					}
				}
			}
		}
	}
}

// A plan is what a component does to a list of numbered ones: which of them goes
// (-1: none), and ahead of how many of the others something comes in (none, if not puts).
type plan struct {
	goes  int
	puts  bool
	ahead []int
}

func planned(c api.Comp, n int) plan {
	var all []int
	for i := range n {
		all = append(all, i)
	}
	switch c.Kind {
	case api.Ins:
		return plan{-1, true, all[:c.I]}
	case api.Rem:
		return plan{c.I, false, nil}
	case api.Move:
		return plan{c.I, true, slices.Delete(all, c.I, c.I+1)[:c.J]}
	}
	return plan{-1, false, nil}
}

// follow says what Turn is to answer, by going after the ones of a list of n.
func follow(a, b api.Comp, left bool, n int) []api.Comp {
	p, q := planned(a, n), planned(b, n)
	out := a
	if p.puts {
		place := stand(p, q, left)
		if a.Kind == api.Ins {
			out.I = place
			return comps(out)
		}
		out.J = place
	}
	same := a.I == b.I && b.Kind != api.Ins
	if same && (b.Kind == api.Rem || !left && a.Kind == b.Kind) {
		return nil
	}
	out.I = slices.Index(behind(b, n), a.I)
	if same && b.Kind == api.Move && a.Kind == api.Move {
		out.J = a.J
	}
	return comps(out)
}

// stand is how many stand ahead of what comes in by p, behind q.
func stand(p, q plan, left bool) int {
	mine, its := others(p.ahead, q.goes), others(q.ahead, p.goes)
	comes := q.puts && (q.goes < 0 || q.goes != p.goes) // both move the same one: it comes in once
	if comes && (its < mine || its == mine && !left) {
		return mine + 1
	}
	return mine
}

// others is how many there are but one.
func others(l []int, but int) int {
	n := 0
	for _, i := range l {
		if i != but {
			n++
		}
	}
	return n
}

// behind are the numbered ones of a list of n, as b leaves them; -1 is a new one.
func behind(b api.Comp, n int) []int {
	var l []int
	for i := range n {
		l = append(l, i)
	}
	switch b.Kind {
	case api.Ins:
		return slices.Insert(l, b.I, -1)
	case api.Rem:
		return slices.Delete(l, b.I, b.I+1)
	case api.Move:
		return slices.Insert(slices.Delete(l, b.I, b.I+1), b.J, b.I)
	}
	return l
}

func TestTurnFollows(t *testing.T) {
	const n = 6
	all := possible(n, "x")
	for _, a := range all {
		for _, b := range all {
			for _, left := range []bool{true, false} {
				if got, want := seq.Turn(a, b, left), follow(a, b, left, n); !alike(got, want) {
					t.Errorf("%+v behind %+v, left %v: %+v, not %+v", a, b, left, got, want)
				}
			}
		}
	}
}
