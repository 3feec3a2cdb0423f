package path_test

import (
	"slices"
	"testing"

	"conciliator/api"
	"conciliator/path"
)

// A path begins with itself, and with each front of it, and they with no longer one.
func TestBeginsWithFronts(t *testing.T) {
	p := way(nth(0), key("a"), key(""), nth(3), key("\xff"), nth(-1), api.Step{List: true, I: 2, Key: "b"}, api.Step{I: 7})
	for n := range len(p) + 1 {
		front := slices.Clone(p[:n])
		if !path.Begins(p, front) || !path.Begins(front, front) || !path.Begins(front, slices.Clone(front)) {
			t.Errorf("the front of %d steps", n)
		}
		if path.Begins(front, p) != (n == len(p)) {
			t.Errorf("the front of %d steps begins with all", n)
		}
		if 0 < n && n < len(p) && path.Begins(p, p[n:]) {
			t.Errorf("with what is behind the first %d steps", n)
		}
	}
	long := slices.Repeat(p, 5)
	if !path.Begins(long, long) || !path.Begins(long, long[:17]) || path.Begins(long[:17], long) {
		t.Error("paths of more than 16 steps")
	}
}

func TestBeginsWithNothing(t *testing.T) {
	for _, p := range [][]api.Step{nil, {}, way(nth(0)), way(key("a"), nth(1))} {
		if !path.Begins(p, nil) || !path.Begins(p, []api.Step{}) {
			t.Errorf("%+v does not begin with the empty path", p)
		}
		if path.Begins(nil, p) != (len(p) == 0) {
			t.Errorf("the empty path, and %+v", p)
		}
	}
}

// All fields of a step tell, those that its kind does not speak of too; the last step as well as the first.
func TestBeginsWithNoOther(t *testing.T) {
	changes := []func(s *api.Step){
		func(s *api.Step) { s.List = !s.List },
		func(s *api.Step) { s.I++ },
		func(s *api.Step) { s.I = -s.I - 1 },
		func(s *api.Step) { s.Key += "a" },
		func(s *api.Step) { s.Key += "\x00" },
	}
	p := way(nth(0), key("a"), key(""), nth(3))
	for n := range len(p) {
		for i := range n + 1 {
			for _, change := range changes {
				q := slices.Clone(p[:n+1])
				change(&q[i])
				if path.Begins(p, q) || path.Begins(q, p[:n+1]) {
					t.Errorf("%+v and %+v", p, q)
				}
			}
		}
	}
	if path.Begins(way(key("ab")), way(key("a"))) || path.Begins(way(key("a"), key("b")), way(key("b"))) {
		t.Error("with a part of a key, or with a later step")
	}
}

// What lies behind a path's length is none of its steps.
func TestBeginsLeavesWhatLiesBehind(t *testing.T) {
	p := way(nth(0), key("a"), nth(1))
	if path.Begins(p[:1], p[:2]) || !path.Begins(p[:2], way(nth(0), key("b"))[:1]) {
		t.Error("what lies behind is read")
	}
}
