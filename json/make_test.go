package json_test

import (
	"fmt"
	"math/rand"
	"strconv"
	"strings"

	"conciliator/api"
)

// What the tests make values of.

func null() api.Val                    { return api.Val{} }
func boolean(n int64) api.Val          { return api.Val{Kind: api.Bool, N: n} }
func number(n int64) api.Val           { return api.Val{Kind: api.Int, N: n} }
func txt(s string) api.Val             { return api.Val{Kind: api.Text, S: s} }
func list(l ...api.Val) api.Val        { return api.Val{Kind: api.List, L: l} }
func object(o ...api.Field) api.Val    { return api.Val{Kind: api.Obj, O: o} }
func at(k string, v api.Val) api.Field { return api.Field{Key: k, V: v} }

// nest lays a value into a list or an object, in turns, so many times.
func nest(v api.Val, times int) api.Val {
	for i := range times {
		if i%2 == 0 {
			v = list(v)
		} else {
			v = object(at("k", v))
		}
	}
	return v
}

// pair is a value, and the one text that it has.
type pair struct {
	v api.Val
	s string
}

// pairs are values of each kind, with what says something there at its edges.
func pairs() []pair {
	return []pair{
		{null(), `null`},
		{boolean(0), `false`}, {boolean(1), `true`},
		{number(0), `0`}, {number(7), `7`}, {number(-1), `-1`}, {number(10), `10`}, {number(-100), `-100`},
		{number(1<<63 - 1), `9223372036854775807`}, {number(-1 << 63), `-9223372036854775808`},
		{txt(""), `""`}, {txt("ab"), `"ab"`}, {txt("a b"), `"a b"`},
		{txt(`"`), `"\""`}, {txt(`\`), `"\\"`}, {txt(`\"`), `"\\\""`}, {txt(`\\`), `"\\\\"`},
		{txt(`\u0000`), `"\\u0000"`}, {txt(`u0000`), `"u0000"`},
		{txt("/'<>&`"), "\"/'<>&`\""}, {txt("[1,{}]:"), `"[1,{}]:"`}, {txt("null"), `"null"`},
		{txt("\x00\x01\x0f\x10\x1f"), `"\u0000\u0001\u000f\u0010\u001f"`},
		{txt("\b\t\n\f\r"), `"\u0008\u0009\u000a\u000c\u000d"`},
		{txt(" !#\x7f"), "\" !#\x7f\""},
		{txt("\u0080\u00e4\u2028\u20ac\ufeff\ufffd\U0010ffff"), "\"\u0080\u00e4\u2028\u20ac\ufeff\ufffd\U0010ffff\""},
		{list(), `[]`}, {list(null()), `[null]`}, {list(list()), `[[]]`}, {list(object()), `[{}]`},
		{list(number(1), txt("ab"), list(boolean(1), number(-2))), `[1,"ab",[true,-2]]`},
		{object(), `{}`}, {object(at("", null())), `{"":null}`}, {object(at("a", object())), `{"a":{}}`},
		{object(at("", txt("")), at("\x00", list()), at("A", number(1)), at("a", number(2))), `{"":"","\u0000":[],"A":1,"a":2}`},
		{object(at("\x1f", null()), at(`"`, null()), at(`\`, null()), at("\u00e9", null())), `{"\u001f":null,"\"":null,"\\":null,"é":null}`},
		{object(at("\uffff", null()), at("\U00010000", null())), "{\"\uffff\":null,\"\U00010000\":null}"}, // by bytes, not by halves of 16 bits
		{object(at("a", list(number(1), null())), at("b", txt(`x\y`))), `{"a":[1,null],"b":"x\\y"}`},
	}
}

// oddOnes are values that are not sound.
func oddOnes() []api.Val {
	return []api.Val{
		{Kind: 6}, {Kind: 255},
		{Kind: api.Null, N: 1}, {Kind: api.Null, S: "a"}, {Kind: api.Null, L: []api.Val{{}}}, {Kind: api.Null, O: []api.Field{{}}},
		{Kind: api.Bool, N: 2}, {Kind: api.Bool, N: -1}, {Kind: api.Bool, S: "a"},
		{Kind: api.Int, S: "a"}, {Kind: api.Int, L: []api.Val{{}}},
		{Kind: api.Text, N: 1}, {Kind: api.Text, S: "\xff"}, {Kind: api.Text, S: "a\xed\xa0\x80"}, {Kind: api.Text, S: "\xe2\x82"},
		{Kind: api.List, N: 1}, {Kind: api.List, O: []api.Field{{}}},
		{Kind: api.Obj, S: "a"}, {Kind: api.Obj, L: []api.Val{{}}},
		object(at("b", null()), at("a", null())), object(at("a", null()), at("a", null())), object(at("\x80", null())),
	}
}

// chance makes a sound value of any kind, with others in it.
func chance(r *rand.Rand, deep int) api.Val {
	texts := []string{"", "\x00", "\x1f", " ", `"`, "0", "A", `\`, `\u`, "a", "ab", "\x7f", "\u00e9", "\ufffd", "\U0001f600"}
	switch k := uint8(r.Intn(6)); k {
	case api.Bool:
		return boolean(r.Int63n(2))
	case api.Int:
		return number(int64(r.Uint64()) >> r.Intn(64))
	case api.Text:
		return txt(texts[r.Intn(len(texts))] + texts[r.Intn(len(texts))])
	case api.List:
		v := list()
		for range r.Intn(4) * min(deep, 1) {
			v.L = append(v.L, chance(r, deep-1))
		}
		return v
	case api.Obj:
		v := object()
		for _, key := range texts {
			if deep > 0 && r.Intn(5) == 0 {
				v.O = append(v.O, at(key, chance(r, deep-1)))
			}
		}
		return v
	}
	return null()
}

// plainText is what the chapter says of a value's text, in other words than the program's.
func plainText(v api.Val) string {
	var parts []string
	switch v.Kind {
	case api.Bool:
		return [2]string{"false", "true"}[v.N]
	case api.Int:
		return strconv.Itoa(int(v.N))
	case api.Text:
		s := strings.ReplaceAll(strings.ReplaceAll(v.S, `\`, `\\`), `"`, `\"`)
		for c := range 0x20 {
			s = strings.ReplaceAll(s, string(rune(c)), fmt.Sprintf(`\u%04x`, c))
		}
		return `"` + s + `"`
	case api.List:
		for _, x := range v.L {
			parts = append(parts, plainText(x))
		}
		return "[" + strings.Join(parts, ",") + "]"
	case api.Obj:
		for _, f := range v.O {
			parts = append(parts, plainText(txt(f.Key))+":"+plainText(f.V))
		}
		return "{" + strings.Join(parts, ",") + "}"
	}
	return "null"
}
