package json_test

import (
	stdjson "encoding/json"
	"io"
	"maps"
	"math/rand"
	"slices"
	"strings"
	"testing"

	"conciliator/api"
	"conciliator/json"
	"conciliator/val"
)

// What is written is read as the same value, and what is read is written as the same text.
func TestThereAndBack(t *testing.T) {
	r := rand.New(rand.NewSource(1))
	all := []api.Val{nest(txt("x"), 16), nest(list(), 16), list(make([]api.Val, 11000)...)}
	for _, p := range pairs() {
		all = append(all, p.v, list(p.v, p.v), object(at("a", p.v), at("b", p.v)))
	}
	for range 5000 {
		all = append(all, chance(r, r.Intn(6)))
	}
	for _, v := range all {
		s, e := json.Encode(v)
		if e != api.OK || s != plainText(v) {
			t.Fatalf("Encode(%+v) is %q, %d", v, s, e)
		}
		if w, e := json.Decode(s); e != api.OK || !val.Same(v, w) {
			t.Fatalf("Decode(%q) is %+v, %d", s, w, e)
		}
	}
}

// plainValue is the value that any JSON text has, of whatever form; false: none.
func plainValue(s string) (api.Val, bool) {
	d := stdjson.NewDecoder(strings.NewReader(s))
	d.UseNumber()
	var x any
	if d.Decode(&x) != nil {
		return api.Val{}, false
	}
	if _, err := d.Token(); err != io.EOF {
		return api.Val{}, false
	}
	return fromAny(x)
}

func fromAny(x any) (api.Val, bool) {
	ok := true
	switch x := x.(type) {
	case bool:
		if x {
			return boolean(1), true
		}
		return boolean(0), true
	case stdjson.Number:
		n, err := x.Int64()
		return number(n), err == nil
	case string:
		return txt(x), true
	case []any:
		v := list()
		for _, y := range x {
			w, good := fromAny(y)
			v.L, ok = append(v.L, w), ok && good
		}
		return v, ok
	case map[string]any:
		v := object()
		for _, k := range slices.Sorted(maps.Keys(x)) {
			w, good := fromAny(x[k])
			v.O, ok = append(v.O, at(k, w)), ok && good
		}
		return v, ok
	}
	return null(), true
}

// hold holds that a text is read just if it is the one text of a value.
func hold(t *testing.T, s string) {
	t.Helper()
	want, ok := plainValue(s)
	ok = ok && val.Deep(want) <= api.MaxDeep && val.Weight(want) <= api.MaxWeight && plainText(want) == s
	why := api.ErrJSON
	if len(s) > api.MaxBytes {
		ok, why = false, api.ErrLimit
	}
	v, e := json.Decode(s)
	if ok && (e != api.OK || !val.Same(v, want)) {
		t.Fatalf("Decode(%q) is %+v, %d, not %+v", s, v, e, want)
	}
	if !ok && (e != why || !val.Same(v, api.Val{})) {
		t.Fatalf("Decode(%q) is %+v, %d, not error %d", s, v, e, why)
	}
	if back, e := json.Encode(v); ok && (back != s || e != api.OK) {
		t.Fatalf("Encode of Decode(%q) is %q, %d", s, back, e)
	}
}

// All texts of a few bytes that say something, one by one.
func TestAllShortTexts(t *testing.T) {
	const bytes = "[]{},:\"\\01-u \x1f\xc3\xa9"
	var all func(s string, more int)
	all = func(s string, more int) {
		hold(t, s)
		for i := range len(bytes) * min(more, 1) {
			all(s+bytes[i:i+1], more-1)
		}
	}
	all("", 4)
}

// Texts of values in which a few bytes are others.
func TestChangedTexts(t *testing.T) {
	r := rand.New(rand.NewSource(2))
	const bytes = "[]{},:\"\"\\\\u0000019-nullatrefs \n\x7f\x80\xc3\xa9"
	for range 40000 {
		b := []byte(plainText(chance(r, 1+r.Intn(3))))
		for range 1 + r.Intn(2) {
			at := r.Intn(len(b) + 1)
			switch c := bytes[r.Intn(len(bytes))]; {
			case r.Intn(3) == 0:
				b = slices.Insert(b, at, c)
			case at == len(b):
			case r.Intn(2) == 0:
				b[at] = c
			default:
				b = slices.Delete(b, at, at+1)
			}
		}
		hold(t, string(b))
	}
}

func FuzzDecode(f *testing.F) {
	for _, p := range pairs() {
		f.Add(p.s)
	}
	f.Fuzz(hold)
}
