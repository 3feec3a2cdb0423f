package comp_test

import (
	"unicode/utf8"

	"conciliator/api"
)

// What the chapters say of each call, by recursion and by fields, to be held against the calls.

func plainSound(c api.Comp) bool {
	key := c.Kind == api.Put || c.Kind == api.Del
	v := c.Kind == api.Put || c.Kind == api.Ins || c.Kind == api.Set
	i := c.Kind >= api.Ins && c.Kind <= api.Tdel
	n := c.Kind == api.Add || c.Kind == api.Tdel
	ok := c.Kind >= 1 && c.Kind <= 9 && len(c.Path) <= 16
	for _, s := range c.Path {
		ok = ok && (s.List && s.I >= 0 && s.Key == "" || !s.List && s.I == 0 && utf8.ValidString(s.Key))
	}
	ok = ok && (key && utf8.ValidString(c.Key) || c.Key == "")
	ok = ok && (i && c.I >= 0 || c.I == 0)
	ok = ok && (c.Kind == api.Move && c.J >= 0 || c.J == 0)
	ok = ok && (n || c.N == 0) && (c.Kind != api.Tdel || c.N > 0)
	ok = ok && (c.Kind == api.Tins) == (c.S != "") && utf8.ValidString(c.S)
	deep, weight, sound := measure(c.V)
	ok = ok && (v || c.V.Kind == 0) && sound
	return ok && len(c.Path)+1+deep <= 16 && weight <= 20000
}

// measure is how deep a value is, what it weighs, and whether it is sound.
func measure(v api.Val) (int, int, bool) {
	deep, weight := 0, 1+len(v.S)
	ok := v.Kind <= api.Obj
	ok = ok && (v.N == 0 || v.Kind == api.Int || v.Kind == api.Bool && v.N == 1)
	ok = ok && (v.S == "" || v.Kind == api.Text && utf8.ValidString(v.S))
	ok = ok && (len(v.L) == 0 || v.Kind == api.List) && (len(v.O) == 0 || v.Kind == api.Obj)
	in := func(x api.Val) {
		d, w, sound := measure(x)
		deep, weight, ok = max(deep, d+1), weight+w, ok && sound
	}
	for _, x := range v.L {
		in(x)
	}
	for i, f := range v.O {
		in(f.V)
		weight += len(f.Key)
		ok = ok && utf8.ValidString(f.Key) && (i == 0 || v.O[i-1].Key < f.Key)
	}
	return deep, weight, ok
}

// plainDo is v with c done to it, all of it new.
func plainDo(v api.Val, c api.Comp) (api.Val, api.Errno) {
	if !plainSound(c) {
		return api.Val{}, api.ErrComp
	}
	v = twinValue(v)
	if len(c.Path) == 0 {
		return plainHere(v, c)
	}
	s := c.Path[0]
	c.Path = c.Path[1:]
	if s.List && v.Kind == api.List && s.I < len(v.L) {
		x, e := plainDo(v.L[s.I], c)
		v.L[s.I] = x
		return orNothing(v, e)
	}
	for i, f := range v.O {
		if !s.List && v.Kind == api.Obj && f.Key >= s.Key {
			if f.Key > s.Key {
				break
			}
			x, e := plainDo(f.V, c)
			v.O[i].V = x
			return orNothing(v, e)
		}
	}
	return api.Val{}, api.ErrPath
}

func orNothing(v api.Val, e api.Errno) (api.Val, api.Errno) {
	if e != api.OK {
		return api.Val{}, e
	}
	return v, e
}

// plainHere does a sound one to what stands at its place.
func plainHere(v api.Val, c api.Comp) (api.Val, api.Errno) {
	e := api.OK
	kinds := []uint8{0, api.Int, api.Obj, api.Obj, api.List, api.List, api.List, api.List, api.Text, api.Text}
	switch {
	case v.Kind != kinds[c.Kind]:
		e = api.ErrKind
	case v.Kind == api.Int:
		v.N = int64(uint64(v.N) + uint64(c.N))
	case v.Kind == api.Obj:
		v.O, e = plainFields(v.O, c)
	case v.Kind == api.List:
		v.L, e = plainItems(v.L, c)
	default:
		v.S, e = plainText(v.S, c)
	}
	return orNothing(v, e)
}

func plainFields(o []api.Field, c api.Comp) ([]api.Field, api.Errno) {
	var ahead []api.Field
	for len(o) > 0 && o[0].Key < c.Key {
		ahead, o = append(ahead, o[0]), o[1:]
	}
	there := len(o) > 0 && o[0].Key == c.Key
	if there {
		o = o[1:]
	}
	if c.Kind == api.Del && !there {
		return nil, api.ErrKey
	}
	if c.Kind == api.Put {
		ahead = append(ahead, at(c.Key, twinValue(c.V)))
	}
	return append(ahead, o...), api.OK
}

func plainItems(l []api.Val, c api.Comp) ([]api.Val, api.Errno) {
	if c.I > len(l) || c.I == len(l) && c.Kind != api.Ins || c.Kind == api.Move && c.J >= len(l) {
		return nil, api.ErrPlace
	}
	x, to := twinValue(c.V), c.I
	if c.Kind == api.Move {
		x, to = l[c.I], c.J
	}
	var rest, out []api.Val
	for i, v := range l {
		if i != c.I || c.Kind == api.Ins {
			rest = append(rest, v)
		}
	}
	if c.Kind == api.Rem {
		return rest, api.OK
	}
	out = append(append(append(out, rest[:to]...), x), rest[to:]...)
	return out, api.OK
}

func plainText(s string, c api.Comp) (string, api.Errno) {
	var letters []string
	for len(s) > 0 {
		_, n := utf8.DecodeRuneInString(s)
		letters, s = append(letters, s[:n]), s[n:]
	}
	if c.I > len(letters) || c.N > int64(len(letters)-c.I) {
		return "", api.ErrPlace
	}
	out := ""
	for i := range len(letters) + 1 {
		if i == c.I {
			out += c.S
		}
		if i < len(letters) && (i < c.I || i >= c.I+int(c.N)) {
			out += letters[i]
		}
	}
	return out, api.OK
}
