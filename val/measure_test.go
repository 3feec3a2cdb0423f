package val_test

import (
	"testing"

	"conciliator/api"
	"conciliator/val"
)

func TestWeightAndDeep(t *testing.T) {
	rows := []struct {
		v            api.Val
		weight, deep int
	}{
		{list(number(1), txt("ab")), 5, 1}, // the chapter's example
		{null(), 1, 0},
		{boolean(1), 1, 0},
		{number(-1 << 63), 1, 0},
		{txt(""), 1, 0},
		{txt("abc"), 4, 0},
		{txt("\u20ac"), 4, 0}, // bytes, not characters
		{txt("\xff\xfe"), 3, 0},
		{list(), 1, 0},
		{list(null()), 2, 1},
		{list(list()), 2, 1},
		{list(list(null()), null()), 4, 2},
		{list(null(), list(null())), 4, 2},
		{object(), 1, 0},
		{object(at("", null())), 2, 1},
		{object(at("key", txt("ab"))), 7, 1},
		{object(at("a", list(list(null()))), at("\u00e9", number(3))), 8, 3},
		{object(at("a", null()), at("b", object(at("cd", list())))), 8, 2},
		{nest(null(), 16), 1 + 16 + 8, 16},
		{nest(txt("x"), 17), 2 + 17 + 8, 17},
	}
	for _, r := range rows {
		if got := val.Weight(r.v); got != r.weight {
			t.Errorf("Weight(%+v) is %d, not %d", r.v, got, r.weight)
		}
		if got := val.Deep(r.v); got != r.deep {
			t.Errorf("Deep(%+v) is %d, not %d", r.v, got, r.deep)
		}
	}
}

// S, L and O count whatever the kind, and L and O together.
func TestWeightAndDeepOfOddOnes(t *testing.T) {
	for k := range 256 {
		v := api.Val{Kind: uint8(k), N: 1 << 50, S: "\xffab"}
		if val.Weight(v) != 4 || val.Deep(v) != 0 {
			t.Errorf("kind %d: %d, %d", k, val.Weight(v), val.Deep(v))
		}
		v.L = []api.Val{null(), list(txt("x"))}
		if val.Weight(v) != 8 || val.Deep(v) != 2 {
			t.Errorf("kind %d with L: %d, %d", k, val.Weight(v), val.Deep(v))
		}
		v.O = []api.Field{at("bb", null()), at("a", nest(null(), 3)), at("a", null())}
		if val.Weight(v) != 8+4+1+5+1 || val.Deep(v) != 4 {
			t.Errorf("kind %d with L and O: %d, %d", k, val.Weight(v), val.Deep(v))
		}
	}
	if v := list([]api.Val{null(), list(null())}[:1]...); val.Weight(v) != 2 || val.Deep(v) != 1 {
		t.Error("what lies behind a list's length counts")
	}
}

func TestField(t *testing.T) {
	abd := keyed("a", "b", "d")
	rows := []struct {
		v     api.Val
		key   string
		place int
		is    bool
	}{
		{object(), "a", 0, false},
		{object(), "", 0, false},
		{abd, "", 0, false}, {abd, "A", 0, false}, {abd, "a", 0, true},
		{abd, "a\x00", 1, false}, {abd, "b", 1, true},
		{abd, "c", 2, false}, {abd, "d", 2, true},
		{abd, "dd", 3, false}, {abd, "e", 3, false}, {abd, "\xff", 3, false},
		{keyed("", "a"), "", 0, true}, {keyed("", "a"), "\x00", 1, false},
		{keyed("aa"), "a", 0, false}, {keyed("a"), "aa", 1, false},
		{keyed("z", "\u00e9"), "\u00e8", 1, false}, {keyed("\uffff", "\U00010000"), "\U00010000", 1, true},
		// keys that fall, or are the same: the first one that is not below
		{keyed("c", "a"), "a", 0, false}, {keyed("c", "a"), "c", 0, true},
		{keyed("a", "c", "b"), "b", 1, false}, {keyed("c", "b", "a", "d"), "d", 3, true},
		{keyed("a", "a", "a"), "a", 0, true}, {keyed("a", "b", "b", "c"), "b", 1, true},
		{keyed("a", "d", "b", "c", "e", "f", "g"), "c", 1, false},
		{keyed("\xfe", "\xff"), "\xff", 1, true},
		// by O, whatever the kind
		{api.Val{Kind: api.Int, O: keyed("a").O}, "a", 0, true}, {api.Val{Kind: 77, O: keyed("a").O}, "b", 1, false},
		{list(txt("a")), "a", 0, false}, {txt("a"), "a", 0, false},
	}
	for _, r := range rows {
		if place, is := val.Field(r.v, r.key); place != r.place || is != r.is {
			t.Errorf("Field(%+v, %q) is %d, %v, not %d, %v", r.v, r.key, place, is, r.place, r.is)
		}
	}
	short := object(keyed("a", "b", "c").O[:1]...)
	if place, is := val.Field(short, "b"); place != 1 || is {
		t.Error("what lies behind a list's length counts")
	}
}

// Where each key of a long object stands, and each that would stand between two.
func TestFieldOfMany(t *testing.T) {
	v := object()
	for i := range 1000 {
		v.O = append(v.O, at(string(rune(0x4e00+2*i)), null()))
	}
	for i := range 1000 {
		if place, is := val.Field(v, string(rune(0x4e00+2*i))); place != i || !is {
			t.Fatalf("key %d stands at %d, %v", i, place, is)
		}
		if place, is := val.Field(v, string(rune(0x4e00+2*i+1))); place != i+1 || is {
			t.Fatalf("behind key %d stands %d, %v", i, place, is)
		}
	}
}
