// Package val is layer 1, values: see shared/doc/01-val.md.
package val

import (
	"slices"
	"strings"
	"unicode/utf8"

	"conciliator/api"
)

// Sound says whether a value is one.
func Sound(v api.Val) bool {
	for _, x := range all(&v) {
		if !soundItself(x) {
			return false
		}
	}
	return true
}

// soundItself leaves out of account whether the values in v are sound.
func soundItself(v *api.Val) bool {
	ok := true
	silent := *v // less the field that says something of this kind
	switch v.Kind {
	case api.Null:
	case api.Bool:
		ok = v.N == 0 || v.N == 1
		silent.N = 0
	case api.Int:
		silent.N = 0
	case api.Text:
		ok = utf8.ValidString(v.S)
		silent.S = ""
	case api.List:
		silent.L = nil
	case api.Obj:
		ok = soundKeys(v.O)
		silent.O = nil
	default:
		ok = false
	}
	return ok && silent.N == 0 && silent.S == "" && len(silent.L) == 0 && len(silent.O) == 0
}

func soundKeys(o []api.Field) bool {
	for i := range o {
		if !utf8.ValidString(o[i].Key) {
			return false
		}
		if i > 0 && o[i-1].Key >= o[i].Key {
			return false
		}
	}
	return true
}

// Same says whether two values are the same, sound or not.
func Same(a, b api.Val) bool {
	for x, y := range pairs(&a, &b) {
		if !sameItself(x, y) {
			return false
		}
	}
	return true
}

// sameItself leaves out of account whether the values in a and b are the same.
func sameItself(a, b *api.Val) bool {
	return a.Kind == b.Kind && a.N == b.N && a.S == b.S &&
		len(a.L) == len(b.L) && slices.EqualFunc(a.O, b.O, sameKey)
}

func sameKey(a, b api.Field) bool { return a.Key == b.Key }

// Weight is how much a value weighs.
func Weight(v api.Val) int {
	sum := 0
	for _, x := range all(&v) {
		sum += 1 + len(x.S)
		for i := range x.O {
			sum += len(x.O[i].Key)
		}
	}
	return sum
}

// Deep is how deep a value is.
func Deep(v api.Val) int {
	most := 0
	for deep := range all(&v) {
		most = max(most, deep)
	}
	return most
}

// Copy is the same value, in new memory.
func Copy(v api.Val) api.Val {
	for _, x := range all(&v) {
		x.S = strings.Clone(x.S)
		x.L = fresh(x.L)
		x.O = fresh(x.O)
		for i := range x.O {
			x.O[i].Key = strings.Clone(x.O[i].Key)
		}
	}
	return v
}

// fresh is not slices.Clone, since that lets an empty list share its memory.
func fresh[T any](l []T) []T {
	if l == nil {
		return nil
	}
	out := make([]T, len(l))
	copy(out, l)
	return out
}

// Field is where a key stands in an object, or would stand; false: it does not.
// It goes key by key, since those of a value that is not sound may fall.
func Field(v api.Val, key string) (int, bool) {
	for i := range v.O {
		if v.O[i].Key >= key {
			return i, v.O[i].Key == key
		}
	}
	return len(v.O), false
}
