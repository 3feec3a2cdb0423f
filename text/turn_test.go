package text_test

import (
	"math"
	"reflect"
	"strings"
	"testing"

	"conciliator/api"
	"conciliator/text"
)

// The greatest number that the chapter speaks of.
const most = math.MaxInt32

// turned is a, behind b: what is to be done if a is left, and if it is not.
type turned struct {
	a, b        api.Comp
	left, right []api.Comp
}

// both is for those where it does not matter.
func both(a, b api.Comp, want ...api.Comp) turned { return turned{a, b, want, want} }

func insBehindIns() []turned {
	return []turned{
		both(tins(3, "x"), tins(0, "ab"), tins(5, "x")),
		both(tins(3, "x"), tins(2, "ab"), tins(5, "x")),
		{tins(3, "x"), tins(3, "ab"), comps(tins(3, "x")), comps(tins(5, "x"))},
		both(tins(3, "x"), tins(4, "ab"), tins(3, "x")),
		{tins(0, "x"), tins(0, "a"), comps(tins(0, "x")), comps(tins(1, "x"))},
		both(tins(0, "x"), tins(1, "a"), tins(0, "x")),
		{tins(3, "x"), tins(3, ""), comps(tins(3, "x")), comps(tins(3, "x"))},
		both(tins(3, "x"), tins(2, ""), tins(3, "x")),
		both(tins(3, ""), tins(2, "ab"), tins(5, "")),
		// It is characters that are counted, and those of b.
		both(tins(3, "\u20ac\u20ac\u20ac"), tins(2, "\u00e9\U0001f600"), tins(5, "\u20ac\u20ac\u20ac")),
		both(tins(3, "x"), tins(2, "\xff\xe2\x82a"), tins(7, "x")),
		// What a Tins has besides says nothing.
		both(many(9, tins(3, "x")), many(-5, tins(2, "ab")), many(9, tins(5, "x"))),
		{many(7, tins(3, "x")), many(7, tins(3, "ab")), comps(many(7, tins(3, "x"))), comps(many(7, tins(5, "x")))},
		both(tins(most, "x"), tins(0, "ab"), tins(most+2, "x")),
		{tins(most, "x"), tins(most, "ab"), comps(tins(most, "x")), comps(tins(most+2, "x"))},
		both(tins(most-1, "x"), tins(most, "ab"), tins(most-1, "x")),
		both(tins(most, "x"), tins(most-1, "ab"), tins(most+2, "x")),
	}
}

func insBehindDel() []turned {
	return []turned{
		both(tins(5, "x"), tdel(0, 2), tins(3, "x")),
		both(tins(5, "x"), tdel(2, 2), tins(3, "x")),
		both(tins(5, "x"), tdel(2, 3), tins(2, "x")),
		both(tins(5, "x"), tdel(0, 5), tins(0, "x")),
		both(tins(5, "x"), tdel(0, 6), tins(0, "x")),
		both(tins(5, "x"), tdel(2, 4), tins(2, "x")),
		both(tins(5, "x"), tdel(4, 1), tins(4, "x")),
		both(tins(5, "x"), tdel(4, 2), tins(4, "x")),
		both(tins(5, "x"), tdel(4, 9), tins(4, "x")),
		both(tins(5, "x"), tdel(5, 1), tins(5, "x")),
		both(tins(5, "x"), tdel(5, 9), tins(5, "x")),
		both(tins(5, "x"), tdel(6, 1), tins(5, "x")),
		both(tins(0, "x"), tdel(0, 1), tins(0, "x")),
		both(tins(5, "x"), tdel(4, 0), tins(5, "x")),
		both(tins(5, "x"), tdel(5, 0), tins(5, "x")),
		both(tins(5, "x"), tdel(6, 0), tins(5, "x")),
		both(tins(5, ""), tdel(2, 2), tins(3, "")),
		both(many(9, tins(5, "\u00e9")), says("abcd", tdel(2, 2)), many(9, tins(3, "\u00e9"))),
		both(tins(most, "x"), tdel(0, most), tins(0, "x")),
		both(tins(most, "x"), tdel(1, most), tins(1, "x")),
		both(tins(most, "x"), tdel(most-1, most), tins(most-1, "x")),
		both(tins(most, "x"), tdel(most, most), tins(most, "x")),
		both(tins(most, "x"), tdel(most-1, 1), tins(most-1, "x")),
		both(tins(most-1, "x"), tdel(most, most), tins(most-1, "x")),
		both(tins(1, "x"), tdel(0, most), tins(0, "x")),
	}
}

func delBehindIns() []turned {
	return []turned{
		both(tdel(1, 3), tins(2, "xy"), tdel(1, 1), tdel(3, 2)), // the chapter's example
		both(tdel(3, 4), tins(0, "ab"), tdel(5, 4)),
		both(tdel(3, 4), tins(2, "ab"), tdel(5, 4)),
		both(tdel(3, 4), tins(3, "ab"), tdel(5, 4)),
		both(tdel(3, 4), tins(4, "ab"), tdel(3, 1), tdel(5, 3)),
		both(tdel(3, 4), tins(5, "ab"), tdel(3, 2), tdel(5, 2)),
		both(tdel(3, 4), tins(6, "ab"), tdel(3, 3), tdel(5, 1)),
		both(tdel(3, 4), tins(7, "ab"), tdel(3, 4)),
		both(tdel(3, 4), tins(8, "ab"), tdel(3, 4)),
		both(tdel(0, 1), tins(0, "ab"), tdel(2, 1)),
		both(tdel(0, 1), tins(1, "ab"), tdel(0, 1)),
		both(tdel(0, 2), tins(1, "ab"), tdel(0, 1), tdel(2, 1)),
		both(tdel(3, 4), tins(5, ""), tdel(3, 2), tdel(3, 2)),
		both(tdel(3, 4), tins(3, ""), tdel(3, 4)),
		both(tdel(3, 4), tins(4, "\u00e9\U0001f600\xff"), tdel(3, 1), tdel(6, 3)),
		both(tdel(3, 4), many(3, tins(4, "a")), tdel(3, 1), tdel(4, 3)),
		both(says("q", tdel(3, 4)), tins(4, "ab"), says("q", tdel(3, 1)), says("q", tdel(5, 3))),
		both(says("q", tdel(3, 4)), tins(3, "ab"), says("q", tdel(5, 4))),
		both(tdel(3, 0), tins(2, "ab"), tdel(5, 0)),
		both(tdel(3, 0), tins(3, "ab"), tdel(5, 0)),
		both(tdel(3, 0), tins(4, "ab"), tdel(3, 0)),
		both(tdel(0, most), tins(most-1, "ab"), tdel(0, most-1), tdel(2, 1)),
		both(tdel(0, most), tins(most, "ab"), tdel(0, most)),
		both(tdel(1, most), tins(most, "ab"), tdel(1, most-1), tdel(3, 1)),
		both(tdel(most, most), tins(most, "ab"), tdel(most+2, most)),
		both(tdel(most-1, most), tins(most, "ab"), tdel(most-1, 1), tdel(most+1, most-1)),
		both(tdel(most, most), tins(0, "ab"), tdel(most+2, most)),
	}
}

func delBehindDel() []turned {
	return []turned{
		both(tdel(3, 4), tdel(0, 2), tdel(1, 4)),
		both(tdel(3, 4), tdel(0, 3), tdel(0, 4)),
		both(tdel(3, 4), tdel(0, 4), tdel(0, 3)),
		both(tdel(3, 4), tdel(2, 2), tdel(2, 3)),
		both(tdel(3, 4), tdel(2, 4), tdel(2, 1)),
		both(tdel(3, 4), tdel(2, 5)),
		both(tdel(3, 4), tdel(2, 9)),
		both(tdel(3, 4), tdel(0, 7)),
		both(tdel(3, 4), tdel(3, 1), tdel(3, 3)),
		both(tdel(3, 4), tdel(3, 3), tdel(3, 1)),
		both(tdel(3, 4), tdel(3, 4)),
		both(tdel(3, 4), tdel(3, 5)),
		both(tdel(3, 4), tdel(4, 1), tdel(3, 3)),
		both(tdel(3, 4), tdel(4, 2), tdel(3, 2)),
		both(tdel(3, 4), tdel(4, 3), tdel(3, 1)),
		both(tdel(3, 4), tdel(4, 4), tdel(3, 1)),
		both(tdel(3, 4), tdel(6, 1), tdel(3, 3)),
		both(tdel(3, 4), tdel(6, 9), tdel(3, 3)),
		both(tdel(3, 4), tdel(7, 1), tdel(3, 4)),
		both(tdel(3, 4), tdel(8, 1), tdel(3, 4)),
		both(tdel(0, 1), tdel(0, 1)),
		both(tdel(3, 4), tdel(0, 0), tdel(3, 4)),
		both(tdel(3, 4), tdel(3, 0), tdel(3, 4)),
		both(tdel(3, 4), tdel(5, 0), tdel(3, 4)),
		both(tdel(3, 0), tdel(0, 1)), // there are none
		both(tdel(3, 0), tdel(3, 0)),
		both(tdel(3, 0), tdel(9, 1)),
		both(says("q", tdel(3, 4)), says("abc", tdel(2, 2)), says("q", tdel(2, 3))),
		both(tdel(0, most), tdel(0, most)),
		both(tdel(0, most), tdel(1, most), tdel(0, 1)),
		both(tdel(1, most), tdel(0, most), tdel(0, 1)),
		both(tdel(most, most), tdel(0, most), tdel(0, most)),
		both(tdel(most, most), tdel(0, 1), tdel(most-1, most)),
		both(tdel(most, most), tdel(most-1, most), tdel(most-1, 1)),
		both(tdel(most-1, most), tdel(most, most), tdel(most-1, 1)),
		both(tdel(0, most), tdel(most, most), tdel(0, most)),
		both(tdel(1, most), tdel(most, 1), tdel(1, most-1)),
	}
}

func allTurned() []turned {
	var all []turned
	for _, l := range [][]turned{insBehindIns(), insBehindDel(), delBehindIns(), delBehindDel()} {
		all = append(all, l...)
	}
	return all
}

// alike says whether two lists of components are the same; nil and empty ones are.
func alike(a, b []api.Comp) bool { return reflect.DeepEqual(twins(a), twins(b)) }

func TestTurn(t *testing.T) {
	for _, r := range allTurned() {
		if got := text.Turn(r.a, r.b, true); !alike(got, r.left) {
			t.Errorf("%+v behind %+v, left: %+v", r.a, r.b, got)
		}
		if got := text.Turn(r.a, r.b, false); !alike(got, r.right) {
			t.Errorf("%+v behind %+v, not left: %+v", r.a, r.b, got)
		}
	}
}

// What a has besides stays as it is, whatever it is, and what b has besides says nothing.
func TestTurnLeavesTheRest(t *testing.T) {
	for _, r := range allTurned() {
		for left, want := range map[bool][]api.Comp{true: r.left, false: r.right} {
			want = twins(want)
			for i := range want {
				want[i] = laden(want[i])
			}
			if got := text.Turn(laden(r.a), r.b, left); !alike(got, want) {
				t.Errorf("%+v behind %+v: %+v", laden(r.a), r.b, got)
			}
			if got := text.Turn(laden(r.a), laden(r.b), left); !alike(got, want) {
				t.Errorf("%+v behind %+v: %+v", laden(r.a), laden(r.b), got)
			}
		}
	}
}

// A component that has a kind of another layer, or none, is left alone, and leaves others alone.
func TestTurnOfOtherKinds(t *testing.T) {
	rows := comps(tins(3, "xy"), tdel(2, 4), tins(0, ""), tdel(-1, -1), laden(many(5, tins(3, "x"))), laden(says("q", tdel(2, 1))))
	for _, k := range otherKinds() {
		for _, a := range rows {
			for _, b := range rows {
				for _, left := range []bool{true, false} {
					if got := text.Turn(kind(k, a), b, left); !alike(got, comps(kind(k, a))) {
						t.Fatalf("%+v behind %+v: %+v", kind(k, a), b, got)
					}
					if got := text.Turn(a, kind(k, b), left); !alike(got, comps(a)) {
						t.Fatalf("%+v behind %+v: %+v", a, kind(k, b), got)
					}
					if got := text.Turn(kind(k, a), kind(k, b), left); !alike(got, comps(kind(k, a))) {
						t.Fatalf("%+v behind %+v: %+v", kind(k, a), kind(k, b), got)
					}
				}
			}
		}
	}
}

// follow says what Turn is to answer, by going after each character of a text of
// width ones: those of a row are numbered, and what b puts in has number -1.
func follow(a, b api.Comp, left bool, width int) []api.Comp {
	var now []int
	gap := 0 // where a's place is in now
	for i := range width + 1 {
		ahead := a.Kind == api.Tins && a.I == i && left
		if ahead {
			gap = len(now)
		}
		if b.Kind == api.Tins && b.I == i {
			now = append(now, newOnes(len(row(b.S)))...)
		}
		if a.I == i && !ahead {
			gap = len(now)
		}
		if b.Kind == api.Tins || i < b.I || i >= b.I+int(b.N) {
			now = append(now, i)
		}
	}
	if a.Kind == api.Tins {
		return comps(place(gap, a))
	}
	return takeOut(a, b, now)
}

func newOnes(n int) []int {
	l := make([]int, n)
	for i := range l {
		l[i] = -1
	}
	return l
}

// takeOut is what a takes of a row, one behind the other; where b stands within it a is two.
func takeOut(a, b api.Comp, now []int) []api.Comp {
	var out []api.Comp
	taken, last := 0, -1
	for at, i := range now {
		if i < a.I || i >= a.I+int(a.N) {
			continue
		}
		if last < 0 || b.Kind == api.Tins && b.I == i {
			c := a
			c.I, c.N = at-taken, 0
			out = append(out, c)
		}
		out[len(out)-1].N++
		taken++
		last = i
	}
	return out
}

func TestTurnFollowsCharacters(t *testing.T) {
	const n = 6
	all := comps()
	for i := range n + 1 {
		all = append(all, tins(i, ""), tins(i, "x"), tins(i, "\u20acyz"))
		for k := 1; k <= n-i; k++ {
			all = append(all, tdel(i, int64(k)))
		}
	}
	for _, a := range all {
		for _, b := range all {
			for _, left := range []bool{true, false} {
				if got, want := text.Turn(a, b, left), follow(a, b, left, n); !alike(got, want) {
					t.Errorf("%+v behind %+v, left %v: %+v, not %+v", a, b, left, got, want)
				}
			}
		}
	}
}

func TestTurnBehindLongTexts(t *testing.T) {
	s := strings.Repeat("\u20ac", 100000)
	if got := text.Turn(tdel(1, 2), tins(2, s), true); !alike(got, comps(tdel(1, 1), tdel(100001, 1))) {
		t.Errorf("%+v", got)
	}
	if got := text.Turn(tins(most, s), tins(0, s), true); !alike(got, comps(tins(most+100000, s))) {
		t.Error("a long one behind a long one")
	}
}
