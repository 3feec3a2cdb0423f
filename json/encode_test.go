package json_test

import (
	"reflect"
	"strings"
	"testing"

	"conciliator/api"
	"conciliator/json"
	"conciliator/val"
)

func TestEncode(t *testing.T) {
	for _, p := range pairs() {
		if s, e := json.Encode(p.v); s != p.s || e != api.OK {
			t.Errorf("Encode(%+v) is %q, %d, not %q", p.v, s, e, p.s)
		}
	}
}

// Each byte of one is written as the chapter says, in a text and in a key.
func TestEncodeEachByte(t *testing.T) {
	const hex = "0123456789abcdef"
	for c := range 128 {
		is := string(rune(c))
		want := is
		if c < 32 {
			want = `\u00` + hex[c/16:c/16+1] + hex[c%16:c%16+1]
		} else if c == '"' || c == '\\' {
			want = `\` + is
		}
		if s, e := json.Encode(txt(is + "x" + is)); s != `"`+want+"x"+want+`"` || e != api.OK {
			t.Errorf("byte %#x: %q, %d", c, s, e)
		}
		if s, e := json.Encode(object(at(is, null()))); s != `{"`+want+`":null}` || e != api.OK {
			t.Errorf("byte %#x in a key: %q, %d", c, s, e)
		}
	}
}

func TestEncodeOfOddOnes(t *testing.T) {
	for _, odd := range oddOnes() {
		around := []api.Val{
			odd, list(odd), list(null(), odd, null()), object(at("a", odd)), object(at("a", null()), at("b", odd)),
			nest(odd, 15), nest(odd, 40), list(odd, txt(strings.Repeat("x", api.MaxWeight))), // ahead of ErrLimit
		}
		for i, v := range around {
			if s, e := json.Encode(v); s != "" || e != api.ErrArg {
				t.Errorf("%+v, the %d-th way: %q, %d", odd, i, s, e)
			}
		}
	}
}

func TestEncodeDepth(t *testing.T) {
	for _, inside := range []pair{{number(5), `5`}, {list(), `[]`}, {object(), `{}`}, {txt(""), `""`}} {
		lists, objects := inside.v, inside.v
		for range api.MaxDeep {
			lists, objects = list(lists), object(at("", objects))
		}
		s, e := json.Encode(lists)
		if s != strings.Repeat("[", 16)+inside.s+strings.Repeat("]", 16) || e != api.OK {
			t.Errorf("lists 16 deep: %q, %d", s, e)
		}
		s, e = json.Encode(objects)
		if s != strings.Repeat(`{"":`, 16)+inside.s+strings.Repeat("}", 16) || e != api.OK {
			t.Errorf("objects 16 deep: %q, %d", s, e)
		}
		for _, v := range []api.Val{list(lists), object(at("", objects)), list(number(1), lists, number(2)), nest(inside.v, 500)} {
			if s, e := json.Encode(v); s != "" || e != api.ErrLimit {
				t.Errorf("17 deep, or more: %q, %d", s, e)
			}
		}
	}
}

func TestEncodeWeight(t *testing.T) {
	const most = api.MaxWeight
	wide := func(n int) api.Val { return api.Val{Kind: api.List, L: make([]api.Val, n)} }
	good := []pair{
		{wide(most - 1), "[" + strings.Repeat("null,", most-2) + "null]"},
		{txt(strings.Repeat("x", most-1)), `"` + strings.Repeat("x", most-1) + `"`},
		{object(at(strings.Repeat("x", most-2), null())), `{"` + strings.Repeat("x", most-2) + `":null}`},
		{list(txt(strings.Repeat("x", most-2))), `["` + strings.Repeat("x", most-2) + `"]`},
		// The weight alone counts, not how many bytes the text has.
		{txt(strings.Repeat("\x00", most-1)), `"` + strings.Repeat(`\u0000`, most-1) + `"`},
	}
	for i, p := range good {
		if s, e := json.Encode(p.v); s != p.s || e != api.OK {
			t.Errorf("a weight of 20000, the %d-th way: %d bytes, %d", i, len(s), e)
		}
	}
	bad := []api.Val{
		wide(most), txt(strings.Repeat("x", most)), object(at(strings.Repeat("x", most-1), null())),
		list(txt(strings.Repeat("x", most-1))), list(wide(most/2), wide(most/2)),
	}
	for i, v := range bad {
		if s, e := json.Encode(v); s != "" || e != api.ErrLimit {
			t.Errorf("a weight above 20000, the %d-th way: %d bytes, %d", i, len(s), e)
		}
	}
}

// Lists that are nil or empty are the same; what lies behind a list's length is not looked at.
func TestEncodeOfListsInMemory(t *testing.T) {
	odd := api.Val{Kind: 9}
	rows := []pair{
		{api.Val{Kind: api.List, L: []api.Val{}, O: []api.Field{}}, `[]`},
		{api.Val{Kind: api.Obj, L: []api.Val{}, O: []api.Field{}}, `{}`},
		{list([]api.Val{number(1), odd}[:1]...), `[1]`},
		{object([]api.Field{at("a", null()), at("\xff", odd)}[:1]...), `{"a":null}`},
		{api.Val{Kind: api.Null, L: []api.Val{odd}[:0], O: []api.Field{at("\xff", odd)}[:0]}, `null`},
	}
	for _, p := range rows {
		if s, e := json.Encode(p.v); s != p.s || e != api.OK {
			t.Errorf("%q is %q, %d", p.s, s, e)
		}
	}
}

func TestEncodeChangesNothing(t *testing.T) {
	l := []api.Val{txt("a"), object(at("b", list(number(1))), at("c", txt("\x00")))}
	o := []api.Field{at("b", null()), at("a", null())}
	for _, v := range []api.Val{list(l...), list(l[:1]...), object(o[:1]...), object(o...), nest(list(l...), 17)} {
		json.Encode(v)
	}
	if !reflect.DeepEqual(l, []api.Val{txt("a"), object(at("b", list(number(1))), at("c", txt("\x00")))}) {
		t.Error("a list was changed")
	}
	if !reflect.DeepEqual(o, []api.Field{at("b", null()), at("a", null())}) {
		t.Error("an object was changed")
	}
	v := list(l...)
	one, _ := json.Encode(v)
	two, _ := json.Encode(val.Copy(v))
	if one != two || overlap(one, two) || overlap(one, l[0].S) {
		t.Error("two texts share memory")
	}
}
