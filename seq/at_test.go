package seq_test

import (
	"math"
	"testing"

	"conciliator/api"
	"conciliator/seq"
)

// whereabouts is which of a list, a component, and where that one is then: -1, if it is gone.
type whereabouts struct {
	i    int
	c    api.Comp
	want int
}

func atBehindIns() []whereabouts {
	return []whereabouts{
		{3, ins(0, "y"), 4},
		{3, ins(2, "y"), 4},
		{3, ins(3, "y"), 4},
		{3, ins(4, "y"), 3},
		{3, ins(9, "y"), 3},
		{0, ins(0, "y"), 1},
		{0, ins(1, "y"), 0},
		{3, to(3, ins(4, "y")), 3}, // J says nothing
		{3, to(0, ins(4, "y")), 3},
		{3, to(9, ins(2, "y")), 4},
		{most, ins(0, "y"), most + 1},
		{most, ins(most, "y"), most + 1},
		{most - 1, ins(most, "y"), most - 1},
	}
}

func atBehindRem() []whereabouts {
	return []whereabouts{
		{3, rem(0), 2},
		{3, rem(2), 2},
		{3, rem(3), -1},
		{3, rem(4), 3},
		{3, rem(9), 3},
		{0, rem(0), -1},
		{0, rem(1), 0},
		{1, rem(0), 0},
		{3, to(9, rem(2)), 2},
		{3, to(0, rem(4)), 3},
		{3, to(7, rem(3)), -1},
		{most, rem(0), most - 1},
		{most, rem(most), -1},
		{most - 1, rem(most), most - 1},
	}
}

func atBehindSet() []whereabouts {
	return []whereabouts{
		{3, set(0, "y"), 3},
		{3, set(2, "y"), 3},
		{3, set(3, "y"), -1},
		{3, set(4, "y"), 3},
		{0, set(0, "y"), -1},
		{0, set(1, "y"), 0},
		{3, to(9, set(2, "y")), 3},
		{3, to(0, set(4, "y")), 3},
		{3, to(7, set(3, "y")), -1},
		{most, set(0, "y"), most},
		{most, set(most, "y"), -1},
		{most - 1, set(most, "y"), most - 1},
	}
}

func atBehindMove() []whereabouts {
	return []whereabouts{
		{3, move(3, 0), 0}, // it is moved itself
		{3, move(3, 3), 3},
		{3, move(3, 5), 5},
		{0, move(0, 0), 0},
		{3, move(1, 0), 3}, // from below it
		{3, move(1, 1), 3},
		{3, move(1, 2), 3},
		{3, move(1, 3), 2},
		{3, move(1, 4), 2},
		{3, move(2, 2), 3},
		{3, move(2, 3), 2},
		{3, move(0, 9), 2},
		{3, move(4, 0), 4}, // from above it
		{3, move(4, 2), 4},
		{3, move(4, 3), 4},
		{3, move(4, 4), 3},
		{3, move(4, 5), 3},
		{3, move(9, 3), 4},
		{0, move(1, 0), 1},
		{0, move(1, 1), 0},
		{1, move(0, 0), 1},
		{1, move(0, 1), 0},
		{most, move(0, most), most - 1},
		{most, move(0, 0), most},
		{most, move(most, 0), 0},
		{0, move(most, 0), 1},
		{0, move(0, most), most},
		{most - 1, move(most, most), most - 1},
		{most - 1, move(most, most-1), most},
	}
}

func allWhereabouts() []whereabouts {
	var all []whereabouts
	for _, l := range [][]whereabouts{atBehindIns(), atBehindRem(), atBehindSet(), atBehindMove()} {
		all = append(all, l...)
	}
	return all
}

func TestAt(t *testing.T) {
	for _, r := range allWhereabouts() {
		for _, c := range comps(r.c, laden(r.c)) {
			i, is := seq.At(r.i, c)
			if is != (r.want >= 0) || is && i != r.want {
				t.Errorf("At(%d, %+v) is %d, %v", r.i, c, i, is)
			}
			if !is && i != 0 {
				t.Errorf("At(%d, %+v) is %d beside a false", r.i, c, i)
			}
		}
	}
}

// At has no bound of its own, as Turn has.
func TestAtBeyond(t *testing.T) {
	rows := []whereabouts{
		{1 << 32, ins(1, "y"), 1<<32 + 1},
		{1 << 32, rem(1), 1<<32 - 1},
		{1, rem(1<<32 + 1), 1},
		{1, set(1<<32+1, "y"), 1},
		{1 << 40, move(1<<40, 1<<50), 1 << 50},
		{1 << 40, move(1, 1<<50), 1<<40 - 1},
		{math.MaxInt - 1, ins(math.MaxInt-1, "y"), math.MaxInt},
		{math.MaxInt, rem(math.MaxInt - 1), math.MaxInt - 1},
		{math.MaxInt, rem(math.MaxInt), -1},
		{math.MaxInt, set(math.MaxInt, "y"), -1},
		{math.MaxInt, move(0, math.MaxInt), math.MaxInt - 1},
		{5, ins(math.MinInt, "y"), 6},
		{5, rem(-1), 4},
	}
	for _, r := range rows {
		i, is := seq.At(r.i, r.c)
		if is != (r.want >= 0) || is && i != r.want || !is && i != 0 {
			t.Errorf("At(%d, %+v) is %d, %v", r.i, r.c, i, is)
		}
	}
	if i, is := seq.At(-1, rem(-1)); i != 0 || is {
		t.Error("a place below 0 that is gone")
	}
	if i, is := seq.At(-5, ins(-5, "y")); i != -4 || !is {
		t.Error("a place below 0 that is there")
	}
}

func TestAtOfOtherKinds(t *testing.T) {
	for _, k := range otherKinds() {
		for _, r := range allWhereabouts() {
			for _, c := range comps(r.c, laden(r.c)) {
				if i, is := seq.At(r.i, kind(k, c)); i != r.i || !is {
					t.Fatalf("At(%d, %+v) is %d, %v", r.i, kind(k, c), i, is)
				}
			}
		}
	}
}

// Where At says that something is, there it stands behind Do.
func TestAtFollowsDo(t *testing.T) {
	const whole = "abcdefg"
	for n := range len(whole) + 1 {
		for _, c := range possible(n, "x") {
			l, _ := seq.Do(row(whole[:n]), c)
			there := map[string]int{}
			for i, v := range l {
				there[v.S] = i
			}
			for i := range n {
				want, stands := there[whole[i:i+1]]
				if got, is := seq.At(i, c); is != stands || got != want {
					t.Errorf("At(%d, %+v) is %d, %v, of %d", i, c, got, is, n)
				}
			}
		}
	}
}
