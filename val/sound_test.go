package val_test

import (
	"testing"

	"conciliator/api"
	"conciliator/val"
)

func TestSoundOfEachKind(t *testing.T) {
	for _, v := range everyKind() {
		if !val.Sound(v) {
			t.Errorf("Sound(%+v) is false", v)
		}
	}
}

func TestSoundOfOddOnes(t *testing.T) {
	for _, v := range oddOnes() {
		if val.Sound(v) {
			t.Errorf("Sound(%+v) is true", v)
		}
	}
}

func TestSoundKinds(t *testing.T) {
	for k := range 256 {
		if got, want := val.Sound(api.Val{Kind: uint8(k)}), k <= 5; got != want {
			t.Errorf("Sound of kind %d: %v", k, got)
		}
	}
}

// Each field is set alone, and says something at its own kinds only.
func TestSoundFieldsThatSayNothing(t *testing.T) {
	fields := []struct {
		name string
		set  api.Val
		says []uint8
	}{
		{"N", api.Val{N: 1}, []uint8{api.Bool, api.Int}},
		{"N below 0", api.Val{N: -1}, []uint8{api.Int}},
		{"S", api.Val{S: "a"}, []uint8{api.Text}},
		{"S of one nought byte", api.Val{S: "\x00"}, []uint8{api.Text}},
		{"L", api.Val{L: []api.Val{{}}}, []uint8{api.List}},
		{"O", api.Val{O: []api.Field{{}}}, []uint8{api.Obj}},
	}
	for _, f := range fields {
		for k := api.Null; k <= api.Obj; k++ {
			v := f.set
			v.Kind = k
			want := false
			for _, s := range f.says {
				want = want || s == k
			}
			if val.Sound(v) != want {
				t.Errorf("%s at kind %d: Sound is %v", f.name, k, !want)
			}
		}
	}
}

func TestSoundOfNilAndEmptyLists(t *testing.T) {
	for k := api.Null; k <= api.Obj; k++ {
		if !val.Sound(api.Val{Kind: k, L: []api.Val{}, O: []api.Field{}}) {
			t.Errorf("kind %d: empty lists count", k)
		}
		behind := api.Val{Kind: k, L: []api.Val{{Kind: 9}}[:0], O: []api.Field{at("\xff", api.Val{Kind: 9})}[:0]}
		if !val.Sound(behind) {
			t.Errorf("kind %d: what lies behind a list's length counts", k)
		}
	}
}

func TestSoundBool(t *testing.T) {
	for _, n := range []int64{-1 << 63, -1, 0, 1, 2, 3, 256, 1 << 32, 1<<32 + 1, 1<<63 - 1} {
		if got, want := val.Sound(boolean(n)), n == 0 || n == 1; got != want {
			t.Errorf("a Bool's N %d: Sound is %v", n, got)
		}
	}
}

// Texts and keys are held to the same.
func TestSoundUTF8(t *testing.T) {
	texts := []struct {
		s    string
		good bool
	}{
		{"", true}, {"a", true}, {"\x00", true}, {"\x7f", true}, {"\u0080", true}, {"\u07ff\u0800\uffff", true},
		{"\ud7ff\ue000", true}, {"\U00010000\U0010ffff", true}, {"\ufffd\ufeff", true},
		{"\x80", false}, {"\xff", false}, {"a\xfeb", false},
		{"\xc3", false}, {"\xe2\x82", false}, {"\xf0\x9f\x98", false}, // cut short
		{"\xc0\x80", false}, {"\xc1\xbf", false}, {"\xe0\x80\x80", false}, {"\xf0\x80\x80\x80", false}, // too long
		{"\xed\xa0\x80", false}, {"\xed\xbf\xbf", false}, // surrogates
		{"\xf4\x90\x80\x80", false}, {"\xf8\x88\x80\x80\x80", false}, // above all code points
	}
	for _, x := range texts {
		if val.Sound(txt(x.s)) != x.good {
			t.Errorf("a text %q: Sound is %v", x.s, !x.good)
		}
		if val.Sound(keyed(x.s)) != x.good {
			t.Errorf("a key %q: Sound is %v", x.s, !x.good)
		}
	}
}

func TestSoundKeys(t *testing.T) {
	rise := [][]string{
		{}, {""}, {"", "\x00"}, {"a", "b", "c"}, {"a", "a\x00", "aa", "b"}, {"Z", "a"}, {"10", "9"},
		{"z", "\u00e9"}, {"\uffff", "\U00010000"}, // by bytes, neither by language nor by halves of 16 bits
	}
	for _, keys := range rise {
		if !val.Sound(keyed(keys...)) {
			t.Errorf("keys %q: not sound", keys)
		}
	}
	fall := [][]string{
		{"a", "a"}, {"", ""}, {"b", "a"}, {"a", ""}, {"aa", "a"}, {"a", "Z"}, {"9", "10"}, {"\u00e9", "z"},
		{"\U00010000", "\uffff"}, {"a", "b", "b"}, {"a", "c", "b"}, {"b", "a", "c"}, {"a", "b", "c", "a"},
		{"a", "\xff"}, {"a", "b\xff", "c"},
	}
	for _, keys := range fall {
		if val.Sound(keyed(keys...)) {
			t.Errorf("keys %q: sound", keys)
		}
	}
}

// One that is not sound tells wherever it lies.
func TestSoundOfValuesInValues(t *testing.T) {
	for _, odd := range oddOnes() {
		around := []api.Val{
			list(odd), list(odd, null()), list(null(), odd), list(null(), odd, null()),
			object(at("a", odd)), object(at("a", odd), at("b", null())), object(at("a", null()), at("b", odd)),
			list(list(), list(number(1), object(at("x", list(odd))))),
			nest(odd, 40),
		}
		for i, v := range around {
			if val.Sound(v) {
				t.Errorf("%+v, the %d-th way: sound", odd, i)
			}
		}
	}
	for _, v := range everyKind() {
		if !val.Sound(list(v, object(at("a", v), at("b", list(v, v))))) || !val.Sound(nest(v, 40)) {
			t.Errorf("%+v in others: not sound", v)
		}
	}
}

// Depth and weight are bounded by other layers, not by Sound.
func TestSoundHasNoLimits(t *testing.T) {
	wide := list()
	for range api.MaxWeight + 1 {
		wide.L = append(wide.L, null())
	}
	if !val.Sound(wide) || !val.Sound(nest(null(), api.MaxDeep+1)) {
		t.Error("a great value is not sound")
	}
}
