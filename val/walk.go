package val

import (
	"iter"

	"conciliator/api"
)

// Both walks keep lists of what is still to come, and call nothing anew for a
// value in a value: those may lie deeper in one another than a stack reaches.

// spot is a value on the way, and how deep it lies.
type spot struct {
	deep int
	v    *api.Val
}

// all ranges over a value and all that is in it, with how deep each lies.
// What is in one is looked up only behind its turn: Copy gives it new lists first.
func all(v *api.Val) iter.Seq2[int, *api.Val] {
	return func(yield func(int, *api.Val) bool) {
		todo := []spot{{0, v}}
		for len(todo) > 0 {
			at := todo[len(todo)-1]
			todo = todo[:len(todo)-1]
			if !yield(at.deep, at.v) {
				return
			}
			for i := range at.v.L {
				todo = append(todo, spot{at.deep + 1, &at.v.L[i]})
			}
			for i := range at.v.O {
				todo = append(todo, spot{at.deep + 1, &at.v.O[i].V})
			}
		}
	}
}

// couple is two values at the same place of two others.
type couple struct{ a, b *api.Val }

// pairs ranges over two values, and all that is at the same places in both.
func pairs(a, b *api.Val) iter.Seq2[*api.Val, *api.Val] {
	return func(yield func(*api.Val, *api.Val) bool) {
		todo := []couple{{a, b}}
		for len(todo) > 0 {
			at := todo[len(todo)-1]
			todo = todo[:len(todo)-1]
			if !yield(at.a, at.b) {
				return
			}
			for i := range min(len(at.a.L), len(at.b.L)) {
				todo = append(todo, couple{&at.a.L[i], &at.b.L[i]})
			}
			for i := range min(len(at.a.O), len(at.b.O)) {
				todo = append(todo, couple{&at.a.O[i].V, &at.b.O[i].V})
			}
		}
	}
}
