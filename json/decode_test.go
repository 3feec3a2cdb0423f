package json_test

import (
	"reflect"
	"runtime/debug"
	"strings"
	"testing"
	"unsafe"

	"conciliator/api"
	"conciliator/json"
)

// refuses holds that a text has no value, for that reason.
func refuses(t *testing.T, why api.Errno, texts ...string) {
	t.Helper()
	for _, s := range texts {
		v, e := json.Decode(s)
		if len(s) > 60 {
			s = s[:60] + ".."
		}
		if e != why || !reflect.DeepEqual(v, api.Val{}) {
			t.Errorf("Decode(%q): error %d, not %d, and %v", s, e, why, v.Kind)
		}
	}
}

func TestDecode(t *testing.T) {
	for _, p := range pairs() {
		v, e := json.Decode(p.s)
		if e != api.OK || plainText(v) != p.s || v.Kind != p.v.Kind || v.N != p.v.N || v.S != p.v.S {
			t.Errorf("Decode(%q) is %+v, %d", p.s, v, e)
		}
	}
}

func TestDecodeOfAllFields(t *testing.T) {
	v, e := json.Decode(`{"a":[1,null],"b":"x\\y"}`)
	want := object(at("a", list(number(1), null())), at("b", txt(`x\y`)))
	if e != api.OK || !reflect.DeepEqual(v, want) {
		t.Errorf("%+v, %d", v, e)
	}
}

func TestDecodeOfWords(t *testing.T) {
	refuses(t, api.ErrJSON, ``, `n`, `nul`, `nulll`, `nullnull`, `Null`, `NULL`, `nil`, `nUll`,
		`t`, `tru`, `truee`, `True`, `f`, `fals`, `falsee`, `False`, `x`, `undefined`, `NaN`, `Infinity`, `-Infinity`,
		`[nul]`, `[tru,1]`, `{"a":fals}`, `nul"`, `tr[]`)
}

func TestDecodeOfNumbers(t *testing.T) {
	refuses(t, api.ErrJSON,
		`00`, `01`, `-01`, `-00`, `-0`, `+1`, `+0`, `-`, `--1`, `-+1`, `+-1`, `1-`, `1-2`, `1+2`, `- 1`, `-a`,
		`1.0`, `1.`, `.5`, `-.5`, `1e1`, `1E1`, `1e`, `0x1`, `0b1`, `0o7`, `1_000`, `1a`, `1,`, `,1`, `1 2`, "1\n", "1\x00",
		`9223372036854775808`, `-9223372036854775809`, `18446744073709551616`, `-18446744073709551616`, `99999999999999999999`,
		`09223372036854775807`, strings.Repeat("9", 60000), strings.Repeat("0", 60000), "-"+strings.Repeat("0", 59999),
		"\u0661", "\uff11", // digits of other scripts
		`[01]`, `[-0]`, `[9223372036854775808]`, `{"a":-}`, `[1-]`, `[-,1]`)
}

func TestDecodeOfBlanks(t *testing.T) {
	for _, blank := range []string{" ", "\t", "\n", "\r", "\v", "\x00", "\u00a0", "\ufeff", "//\n", "/**/"} {
		for _, s := range []string{`_1`, `1_`, `_null`, `null_`, `_""`, `""_`, `_[]`, `[_]`, `[]_`, `[1_]`, `[_1]`, `[1_,2]`, `[1,_2]`,
			`{_}`, `{_"a":1}`, `{"a"_:1}`, `{"a":_1}`, `{"a":1_}`, `{"a":1_,"b":2}`, `{"a":1,_"b":2}`, `_`} {
			refuses(t, api.ErrJSON, strings.ReplaceAll(s, "_", blank))
		}
	}
}

// Only what Encode writes is read: a character has one way to be written.
func TestDecodeOfEscapes(t *testing.T) {
	refuses(t, api.ErrJSON, `"\n"`, `"\t"`, `"\r"`, `"\b"`, `"\f"`, `"\v"`, `"\0"`, `"\a"`, `"\/"`, `"\'"`, `"\x00"`, `"\U0000"`,
		`"\u0020"`, `"\u0022"`, `"\u005c"`, `"\u0041"`, `"\u007f"`, `"\u00e9"`, `"\u0100"`, `"\u1000"`, `"\u2028"`, `"\ud83d\ude00"`, `"\ud800"`,
		`"\u000A"`, `"\u001F"`, `"\u000g"`, `"\u00g0"`, `"\u00 0"`, `"\u0"`, `"\u00"`, `"\u000"`, `"\u"`, `"\"`, `"\`, `"\u`, `"\u00`, `"\u000`, `"\u0000`,
		`"\u00-1"`, `"\u00+1"`, `"\u{0}"`, `"\ u0000"`, `{"\n":1}`, `{"\u0041":1}`, `["\u000A"]`)
	for c := range 0x20 {
		refuses(t, api.ErrJSON, `"`+string(rune(c))+`"`, `"a`+string(rune(c))+`b"`, `{"`+string(rune(c))+`":1}`)
	}
}

// Each byte behind a backslash, and each two that end an escape: those that Encode writes are read, and no others.
func TestDecodeOfEachEscape(t *testing.T) {
	for a := range 256 {
		is := string([]byte{byte(a)})
		s := `"\` + is + `"`
		v, e := json.Decode(s)
		if good := a == '"' || a == '\\'; good != (e == api.OK) || good && v.S != is {
			t.Errorf("%q: %q, %d", s, v.S, e)
		}
		for b := range 256 {
			s := `"\u00` + string([]byte{byte(a), byte(b)}) + `"`
			high, low := strings.IndexByte("01", byte(a)), strings.IndexByte("0123456789abcdef", byte(b))
			good := high >= 0 && low >= 0
			v, e = json.Decode(s)
			if good != (e == api.OK) || good && v.S != string([]byte{byte(16*high + low)}) {
				t.Errorf("%q: %q, %d", s, v.S, e)
			}
		}
	}
}

func TestDecodeOfBytes(t *testing.T) {
	for _, odd := range []string{
		"\x80", "\xff", "\xfe", "a\xffb", "\xc3", "\xe2\x82", "\xf0\x9f\x98", // no character, or cut short
		"\xc0\x80", "\xc1\xbf", "\xe0\x80\x80", "\xf0\x80\x80\x80", "\xc0\xa2", // too long
		"\xed\xa0\x80", "\xed\xbf\xbf", "\xed\xa0\xbd\xed\xb8\x80", // surrogates
		"\xf4\x90\x80\x80", "\xf8\x88\x80\x80\x80", // above all code points
	} {
		refuses(t, api.ErrJSON, odd, `"`+odd+`"`, `["x","`+odd+`"]`, `{"`+odd+`":1}`, `{"a":"`+odd+`"}`, odd+`1`, `1`+odd, `[`+odd+`]`)
	}
}

func TestDecodeOfTexts(t *testing.T) {
	refuses(t, api.ErrJSON, `"`, `"a`, `a"`, `'a'`, `"a""`, `"a"b`, `""""`, `"\""x`, `"\\""`, `["a]`, `{"a:1}`, `“a”`)
}

func TestDecodeOfLists(t *testing.T) {
	refuses(t, api.ErrJSON, `[`, `]`, `[[`, `[]]`, `[[]`, `][`, `[1`, `1]`, `[,]`, `[1,]`, `[,1]`, `[1,,2]`, `[1 2]`, `[1,2`, `[1,`, `[12"a"]`, `["a""b"]`,
		`[1;2]`, `[1:2]`, `(1)`, `[1}`, `{1]`, `[]1`, `[],`, `[][]`, `[]null`, `[nulltrue]`, `[[][]]`, `[{}{}]`, `["a":1]`)
}

func TestDecodeOfObjects(t *testing.T) {
	refuses(t, api.ErrJSON, `{`, `}`, `{{}}`, `{}}`, `{}{}`, `{"a"}`, `{"a":}`, `{"a":1`, `{"a":`, `{"a"`, `{"a`, `{"`, `"a":1`, `{:1}`, `{1:1}`, `{a:1}`, `{'a':1}`,
		`{null:1}`, `{"a":1,}`, `{,"a":1}`, `{,}`, `{"a":1,,"b":2}`, `{"a":1"b":2}`, `{"a":1;"b":2}`, `{"a"=1}`, `{"a"1}`, `{"a"::1}`, `{"a",1}`,
		`{"a":1]`, `["a":1}`, `{["a"]:1}`, `{"a":1}1`, `{"a":1},`)
}

func TestDecodeOfKeys(t *testing.T) {
	refuses(t, api.ErrJSON, `{"b":1,"a":1}`, `{"a":1,"a":1}`, `{"a":1,"a":2}`, `{"":1,"":1}`, `{"a":1,"":1}`, `{"aa":1,"a":1}`, `{"a":1,"A":1}`,
		`{"9":1,"10":1}`, `{"a":1,"b":1,"b":1}`, `{"a":1,"c":1,"b":1}`, `{"é":1,"z":1}`, "{\"\U00010000\":1,\"\uffff\":1}",
		`{"a":1,"\u0000":1}`, `{"\\":1,"\"":1}`, `{" ":1,"\u001f":1}`,
		`[{"b":1,"a":1}]`, `{"x":{"b":1,"a":1}}`, `{"x":[1,{"a":1,"a":1}]}`)
	// by what they are, not by how they are written
	for _, s := range []string{`{"\u0000":1," ":1}`, `{" ":1,"\"":1}`, `{"\"":1,"#":1}`, `{"[":1,"\\":1,"]":1}`, `{"":1,"a":1,"aa":1,"ab":1,"b":1}`, `{"10":1,"9":1}`, `{"z":1,"é":1}`} {
		if v, e := json.Decode(s); e != api.OK || plainText(v) != s {
			t.Errorf("Decode(%q): %d", s, e)
		}
	}
}

func TestDecodeDepth(t *testing.T) {
	for _, inside := range []string{`5`, `[]`, `{}`, `""`, `null`} {
		lists := strings.Repeat("[", 16) + inside + strings.Repeat("]", 16)
		objects := strings.Repeat(`{"":`, 16) + inside + strings.Repeat("}", 16)
		// one beside the other: depth that was left does not count
		for _, s := range []string{lists, objects, `[` + lists[1:len(lists)-1] + `,` + lists[1:len(lists)-1] + `]`, `{"a":` + lists[1:len(lists)-1] + `,"b":` + lists[1:len(lists)-1] + `}`} {
			if v, e := json.Decode(s); e != api.OK || plainText(v) != s {
				t.Errorf("16 deep: %q: %d", s, e)
			}
		}
		refuses(t, api.ErrJSON, `[`+lists+`]`, `{"":`+objects+`}`, `{"":`+lists+`}`, `[`+objects+`]`, `[1,`+lists+`]`, `[`+lists+`,1]`)
	}
}

// A small stack stands in for a text that outgrows a great one.
func TestDecodeOfVeryDeepTexts(t *testing.T) {
	defer debug.SetMaxStack(debug.SetMaxStack(1 << 20))
	refuses(t, api.ErrJSON, strings.Repeat("[", 60000), strings.Repeat("[", 30000)+strings.Repeat("]", 30000),
		strings.Repeat(`{"":`, 12000)+strings.Repeat("}", 12000), strings.Repeat(`[{"":`, 12000), strings.Repeat(`{`, 60000))
}

func TestDecodeWeight(t *testing.T) {
	const most = api.MaxWeight
	good := []string{
		`"` + strings.Repeat("x", most-1) + `"`,
		`{"` + strings.Repeat("x", most-2) + `":null}`,
		`[` + strings.Repeat("1,", most-2) + `1]`,
		`["` + strings.Repeat("x", most-2) + `"]`,
		`"` + strings.Repeat("\u20ac", 6666) + `x"`, // bytes, not characters
		`"` + strings.Repeat(`\\`, most-1) + `"`,    // bytes of the value, not of the text
	}
	for i, s := range good {
		if v, e := json.Decode(s); e != api.OK || plainText(v) != s {
			t.Errorf("a weight of 20000, the %d-th way: %d", i, e)
		}
	}
	refuses(t, api.ErrJSON,
		`"`+strings.Repeat("x", most)+`"`,
		`{"`+strings.Repeat("x", most-1)+`":null}`,
		`[`+strings.Repeat("1,", most-1)+`1]`,
		`["`+strings.Repeat("x", most-1)+`"]`,
		`"`+strings.Repeat("\u20ac", 6667)+`"`,
		`"`+strings.Repeat(`\\`, most)+`"`,
		`[[`+strings.Repeat("1,", most/2)+`1],[`+strings.Repeat("1,", most/2)+`1]]`)
}

func TestDecodeBytes(t *testing.T) {
	escapes := strings.Repeat(`\u0000`, 9999)
	s := `"` + escapes + `xxxx"`
	if v, e := json.Decode(s); len(s) != 60000 || e != api.OK || v.S != strings.Repeat("\x00", 9999)+"xxxx" {
		t.Errorf("a text of 60000 bytes: %d", e)
	}
	refuses(t, api.ErrLimit, `"`+escapes+`xxxxx"`, // a value's text, but for how long it is
		strings.Repeat("[", 60001), strings.Repeat(" ", 60001), strings.Repeat("\xff", 60001), s+"x", strings.Repeat("x", 1<<20))
	refuses(t, api.ErrJSON, `"`+escapes+`xxx"x`, strings.Repeat("[", 60000), strings.Repeat(" ", 60000), strings.Repeat("\xff", 60000))
}

// A text that ends within its value, or goes on behind it, is none.
func TestDecodeOfTextsThatAreCut(t *testing.T) {
	for _, p := range pairs() {
		if p.v.Kind == api.Int {
			continue // the first digits of a number are one, too
		}
		for i := range len(p.s) {
			refuses(t, api.ErrJSON, p.s[:i])
		}
	}
	for _, p := range pairs() {
		for _, more := range []string{" ", ",", "]", "}", `"`, "null", "[]", "-1", "\x00", "\xff", p.s} {
			if p.s != "0" && p.v.Kind == api.Int && more == p.s {
				continue // a longer number
			}
			refuses(t, api.ErrJSON, p.s+more)
		}
	}
}

// overlap says whether two texts share memory.
func overlap(a, b string) bool {
	if a == "" || b == "" {
		return false
	}
	p, q := uintptr(unsafe.Pointer(unsafe.StringData(a))), uintptr(unsafe.Pointer(unsafe.StringData(b)))
	return p < q+uintptr(len(b)) && q < p+uintptr(len(a))
}

func TestDecodeIsNewMemory(t *testing.T) {
	s := strings.Clone(`{"key":"a","l":["b","long enough to be worth a cut"]}`)
	one, e := json.Decode(s)
	two, f := json.Decode(s)
	if e != api.OK || f != api.OK {
		t.Fatal(e, f)
	}
	texts := func(v api.Val) []string {
		return []string{v.O[0].Key, v.O[0].V.S, v.O[1].Key, v.O[1].V.L[0].S, v.O[1].V.L[1].S}
	}
	for i, x := range texts(one) {
		if overlap(x, s) {
			t.Errorf("%q is cut out of the text", x)
		}
		if overlap(x, texts(two)[i]) {
			t.Errorf("%q stands in two answers", x)
		}
	}
	one.O[0].V.S, one.O[1].V.L[0] = "z", null()
	if plainText(two) != s {
		t.Error("a change of one answer came through to another one")
	}
	if again, _ := json.Decode(s); plainText(again) != s {
		t.Error("a change of an answer came through to a later one")
	}
}
