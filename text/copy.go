package text

import (
	"strings"

	"conciliator/api"
)

// anew is these components, each in new memory.
func anew(l ...api.Comp) []api.Comp {
	out := freshList(l)
	for i := range out {
		renew(&out[i])
	}
	return out
}

// renew lays all that a component holds into new memory. Of one whose kind is of
// texts V says nothing, but what is there is answered as well.
func renew(c *api.Comp) {
	c.Path = freshList(c.Path)
	for i := range c.Path {
		c.Path[i].Key = strings.Clone(c.Path[i].Key)
	}
	c.Key = strings.Clone(c.Key)
	c.S = strings.Clone(c.S)
	renewValue(&c.V)
}

// renewValue keeps a list of what is still to come, and calls nothing anew for a
// value in a value: those may lie deeper in one another than a stack reaches.
func renewValue(v *api.Val) {
	todo := []*api.Val{v}
	for len(todo) > 0 {
		x := todo[len(todo)-1]
		todo = todo[:len(todo)-1]
		x.S = strings.Clone(x.S)
		x.L = freshList(x.L)
		for i := range x.L {
			todo = append(todo, &x.L[i])
		}
		x.O = freshList(x.O)
		for i := range x.O {
			x.O[i].Key = strings.Clone(x.O[i].Key)
			todo = append(todo, &x.O[i].V)
		}
	}
}

// freshList is not slices.Clone, since that lets an empty list share its memory.
func freshList[T any](l []T) []T {
	if l == nil {
		return nil
	}
	out := make([]T, len(l))
	copy(out, l)
	return out
}
