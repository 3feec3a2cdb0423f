package path

import (
	"slices"

	"conciliator/api"
	"conciliator/val"
)

// reach goes from v on, step by step, and then on by end, which is given the
// place where p leads. Each value on the way is given to enter before one goes
// into it. It calls nothing anew for a step: there may be more of them than a
// stack reaches.
func reach(v *api.Val, p []api.Step, enter, end func(at *api.Val)) api.Errno {
	for _, s := range p {
		enter(v)
		v = inside(v, s)
		if v == nil {
			return api.ErrPath
		}
	}
	end(v)
	return api.OK
}

// inside is the place in v where a step leads; nil: there is none.
func inside(v *api.Val, s api.Step) *api.Val {
	if s.List {
		return item(v, s.I)
	}
	return field(v, s.Key)
}

func item(v *api.Val, i int) *api.Val {
	if v.Kind != api.List || i < 0 || i >= len(v.L) {
		return nil
	}
	return &v.L[i]
}

func field(v *api.Val, key string) *api.Val {
	i, there := val.Field(*v, key)
	if v.Kind != api.Obj || !there {
		return nil
	}
	return &v.O[i].V
}

// leave is for one who looks, and changes nothing.
func leave(*api.Val) {}

// loosen gives a value lists of its own, so that a change in them is none of
// the lists that were handed in.
func loosen(v *api.Val) {
	v.L = slices.Clone(v.L)
	v.O = slices.Clone(v.O)
}
