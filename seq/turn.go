package seq

import (
	"strings"

	"conciliator/api"
	"conciliator/val"
)

// At is where the i-th of a list is behind a component; false: it is gone.
func At(i int, c api.Comp) (int, bool) {
	if c.I == i {
		switch c.Kind {
		case api.Rem, api.Set:
			return 0, false
		case api.Move:
			return c.J, true
		}
	}
	return gap(i, c, false), true // what is put in at its place stands ahead of it
}

// Turn is what is to be done of a, behind b, if both were meant for the same
// list; left: a has its way where both can't have theirs.
func Turn(a, b api.Comp, left bool) []api.Comp {
	if !ofLists(a) || !ofLists(b) {
		return alone(a)
	}
	if a.Kind == api.Ins {
		a.I = gap(a.I, b, left)
		return alone(a)
	}
	same := a.I == b.I && b.Kind != api.Ins
	if same && !stays(a, b, left) {
		return nil
	}
	if a.Kind == api.Move && !same {
		a.J = gap(a.J, lacking(b, a.I), left)
	}
	i, there := At(a.I, b)
	if there { // else b set what a takes out, or sets: that is where it was
		a.I = i
	}
	return alone(a)
}

func ofLists(c api.Comp) bool {
	switch c.Kind {
	case api.Ins, api.Rem, api.Set, api.Move:
		return true
	}
	return false
}

// stays says whether anything is to be done of a, behind b that took out, set or
// moved the same one.
func stays(a, b api.Comp, left bool) bool {
	switch b.Kind {
	case api.Rem:
		return false
	case a.Kind: // both set it, or both move it
		return left
	}
	return true
}

// gap is where the place ahead of the k-th is behind a component; left: it stays
// ahead of what is put in there.
func gap(k int, c api.Comp, left bool) int {
	switch c.Kind {
	case api.Ins:
		return more(k, c.I, left)
	case api.Rem:
		return less(k, c.I)
	case api.Move:
		return more(less(k, c.I), c.J, left)
	}
	return k
}

// lacking is the same component for a list without the i-th, if that is none of
// those it takes out or sets: of a Move J is a place in such a list.
func lacking(c api.Comp, i int) api.Comp {
	if c.Kind == api.Move {
		c.J = less(c.J, less(i, c.I))
	}
	c.I = less(c.I, i)
	return c
}

// more is k behind something that is put in at i.
func more(k, i int, left bool) int {
	if i < k || i == k && !left {
		return k + 1
	}
	return k
}

// less is k behind the i-th that is taken out.
func less(k, i int) int {
	if i < k {
		return k - 1
	}
	return k
}

// alone is a list of one component, in new memory.
func alone(c api.Comp) []api.Comp {
	c.Path = freshPath(c.Path)
	c.Key = strings.Clone(c.Key)
	c.S = strings.Clone(c.S)
	c.V = val.Copy(c.V)
	return []api.Comp{c}
}

// freshPath is not slices.Clone, since that lets an empty path share its memory.
func freshPath(p []api.Step) []api.Step {
	if p == nil {
		return nil
	}
	out := make([]api.Step, len(p))
	for i, s := range p {
		s.Key = strings.Clone(s.Key)
		out[i] = s
	}
	return out
}
