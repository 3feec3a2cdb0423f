package comp_test

import (
	"math"
	"math/rand"
	"strings"
	"testing"

	"conciliator/api"
	"conciliator/comp"
)

func TestSoundOfEachKind(t *testing.T) {
	all := append(ordinary(),
		add(0), add(-1), add(math.MinInt64), add(math.MaxInt64),
		put("", null()), put("\x00", list()), put("\u20ac\ufffd", object(at("", txt("x")))), del(""), del("\u00e9"),
		ins(0, null()), ins(math.MaxInt, list(number(1))), set(0, boolean(1)), set(math.MaxInt, null()),
		rem(0), rem(math.MaxInt), move(0, 0), move(3, 0), move(0, 3), move(math.MaxInt, math.MaxInt),
		tins(0, "\x00"), tins(math.MaxInt, "\U0010ffff"), tins(0, strings.Repeat("x", 100000)),
		tdel(0, 1), tdel(math.MaxInt, math.MaxInt64),
	)
	for _, c := range all {
		for _, p := range [][]api.Step{nil, {}, way(key("")), way(nth(0), key("a"), nth(math.MaxInt))} {
			if c := path(c, p...); !comp.Sound(c) {
				t.Errorf("Sound(%+v) is false", c)
			}
		}
	}
}

// What is sound at its own kind may be so at another one of which the same fields speak.
func TestSoundKinds(t *testing.T) {
	others := map[uint8]string{ // the kinds' numbers
		0:        "1234567", // with nothing: but a Tins needs S, and a Tdel N
		api.Add:  "19",
		api.Put:  "2",
		api.Del:  "23",
		api.Ins:  "46",
		api.Rem:  "4567",
		api.Set:  "46",
		api.Move: "7",
		api.Tins: "8",
		api.Tdel: "9",
	}
	for _, c := range append(ordinary(), api.Comp{}) {
		says := others[c.Kind]
		for k := range 256 {
			c.Kind = uint8(k)
			if want := strings.ContainsRune(says, '0'+rune(k)); comp.Sound(c) != want {
				t.Errorf("Sound(%+v) is %v", c, !want)
			}
		}
	}
}

// Each field is set alone, and says something at its own kinds only.
func TestSoundFieldsThatSayNothing(t *testing.T) {
	fields := []struct {
		name string
		set  func(c *api.Comp)
		says string // the kinds' numbers
	}{
		{"Key", func(c *api.Comp) { c.Key = "a" }, "23"},
		{"Key of one nought byte", func(c *api.Comp) { c.Key = "\x00" }, "23"},
		{"I", func(c *api.Comp) { c.I = 1 }, "456789"},
		{"I, high bits", func(c *api.Comp) { c.I = 1 << 40 }, "456789"},
		{"J", func(c *api.Comp) { c.J = 1 }, "7"},
		{"J, high bits", func(c *api.Comp) { c.J = 1 << 40 }, "7"},
		{"N", func(c *api.Comp) { c.N = 1 }, "19"},
		{"N, high bits", func(c *api.Comp) { c.N = 1 << 40 }, "19"},
		{"N below 0", func(c *api.Comp) { c.N = -1 }, "1"},
		{"S", func(c *api.Comp) { c.S = "a" }, "8"},
		{"S of one nought byte", func(c *api.Comp) { c.S = "\x00" }, "8"},
		{"V", func(c *api.Comp) { c.V = number(0) }, "246"},
		{"V, a truth", func(c *api.Comp) { c.V = boolean(0) }, "246"},
		{"V, an empty text", func(c *api.Comp) { c.V = txt("") }, "246"},
		{"V, an empty list", func(c *api.Comp) { c.V = list() }, "246"},
		{"V, an empty object", func(c *api.Comp) { c.V = object() }, "246"},
		{"V's N", func(c *api.Comp) { c.V.N = 1 }, ""}, // not nothing, nor sound
		{"V's S", func(c *api.Comp) { c.V.S = "a" }, ""},
		{"V's L", func(c *api.Comp) { c.V.L = []api.Val{{}} }, ""},
		{"V's O", func(c *api.Comp) { c.V.O = []api.Field{{}} }, ""},
	}
	for _, f := range fields {
		for _, base := range ordinary() {
			if base.Kind == api.Put || base.Kind == api.Ins || base.Kind == api.Set {
				base.V = null()
			}
			f.set(&base)
			want := strings.Contains(f.says, string('0'+rune(base.Kind)))
			if comp.Sound(base) != want {
				t.Errorf("%s at kind %d: Sound is %v", f.name, base.Kind, !want)
			}
		}
	}
}

// A list that is nil and one that is empty are the same, also in a V that says nothing.
func TestSoundOfEmptyLists(t *testing.T) {
	odd := []api.Step{{List: true, I: -1, Key: "\xff"}}
	for _, c := range ordinary() {
		c.Path = odd[:0]
		if !comp.Sound(c) {
			t.Errorf("kind %d: what lies behind an empty path counts", c.Kind)
		}
		c.V = api.Val{L: []api.Val{{Kind: 9}}[:0], O: []api.Field{at("\xff", api.Val{Kind: 9})}[:0]}
		if !comp.Sound(c) {
			t.Errorf("kind %d: empty lists in V count", c.Kind)
		}
		c.Path = append(way(key("a")), odd...)[:1]
		if !comp.Sound(c) {
			t.Errorf("kind %d: what lies behind a path's length counts", c.Kind)
		}
	}
}

func TestSoundNumbers(t *testing.T) {
	for _, n := range []int{math.MinInt, -1 << 40, -1 << 31, -2, -1} {
		wrong := comps(
			ins(n, null()), rem(n), set(n, null()), move(n, 0), move(0, n), move(n, n), tins(n, "x"), tdel(n, 1),
			tdel(0, int64(n)), tdel(1, int64(n)),
		)
		for _, c := range wrong {
			if comp.Sound(c) {
				t.Errorf("Sound(%+v) is true", c)
			}
		}
		// where they say nothing, too
		for _, c := range ordinary() {
			one, two := c, c
			one.I, two.J = n, n
			if comp.Sound(one) || comp.Sound(two) {
				t.Errorf("I or J %d at kind %d: Sound is true", n, c.Kind)
			}
		}
	}
	if comp.Sound(tdel(0, 0)) || !comp.Sound(tdel(0, 1)) {
		t.Error("N of a Tdel")
	}
}

func TestSoundTexts(t *testing.T) {
	rows := []struct {
		s    string
		utf8 bool
	}{
		{"a", true}, {"\x00", true}, {"\x7f", true}, {"\u0080", true}, {"\ufffd", true}, {"\U0010ffff", true}, {"\ufeff\u202e", true},
		{"\x80", false}, {"\xff", false}, {"a\xc3", false}, {"\xc3(", false}, {"\xc0\x80", false},
		{"\xed\xa0\x80", false}, {"\xf4\x90\x80\x80", false}, {"\u20ac\xe2\x82", false},
	}
	for _, r := range rows {
		for _, c := range comps(put(r.s, txt("x")), del(r.s), tins(0, r.s), put("k", txt(r.s)), path(add(1), key(r.s)), path(rem(0), nth(0), key(r.s), nth(0))) {
			if comp.Sound(c) != r.utf8 {
				t.Errorf("Sound(%+v) is %v", c, !r.utf8)
			}
		}
	}
	if comp.Sound(tins(0, "")) || comp.Sound(tins(3, "")) {
		t.Error("a Tins of an empty text is sound")
	}
	if !comp.Sound(put("", null())) || !comp.Sound(del("")) {
		t.Error("an empty Key is not sound")
	}
}

func TestSoundPaths(t *testing.T) {
	odd := []api.Step{
		{List: true, I: -1}, {List: true, I: math.MinInt}, {List: true, Key: "a"}, {List: true, I: 2, Key: "\x00"},
		{I: 1}, {I: -1, Key: "a"}, {I: 1 << 40, Key: "a"}, {Key: "\xff"}, {Key: "a\xed\xa0\x80"},
	}
	for _, c := range ordinary() {
		for _, s := range odd {
			for n := range 15 {
				p := steps(15)
				p[n] = s
				if comp.Sound(path(c, p...)) || comp.Sound(path(c, p[:n+1]...)) {
					t.Errorf("kind %d, step %d is %+v: Sound is true", c.Kind, n, s)
				}
			}
		}
	}
}

// Path, one, and V's depth are at most 16 together: of those of no V too, since their V is nothing, 0 deep.
func TestSoundDepth(t *testing.T) {
	for n := range 20 {
		for _, c := range ordinary() {
			if c := path(c, steps(n)...); comp.Sound(c) != (n+1 <= 16) {
				t.Errorf("kind %d, %d steps: Sound is %v", c.Kind, n, comp.Sound(c))
			}
		}
		for d := range 20 {
			for _, c := range giving() {
				c := path(gives(deep(d), c), steps(n)...)
				if comp.Sound(c) != (n+1+d <= 16) {
					t.Errorf("kind %d, %d steps, V %d deep: Sound is %v", c.Kind, n, d, comp.Sound(c))
				}
			}
		}
	}
	// the deepest counts, not the first, nor the last
	flat, within, beyond := list(number(1)), deep(14), deep(15)
	for _, c := range giving() {
		if !comp.Sound(gives(list(flat, within, flat), c)) || comp.Sound(gives(list(flat, beyond, flat), c)) {
			t.Errorf("kind %d: the deepest does not count", c.Kind)
		}
	}
}

func TestSoundWeight(t *testing.T) {
	text := func(n int) api.Val { return txt(strings.Repeat("x", n-1)) }
	wide := func(n int) api.Val { return list(make([]api.Val, n-1)...) }
	keyed := func(n int) api.Val { return object(at(strings.Repeat("k", n-2), null())) }
	characters := func(n int) api.Val { return list(txt(strings.Repeat("\u20ac", (n-3)/3)), text(n-2-(n-3)/3*3)) }
	for i, weigh := range []func(int) api.Val{text, wide, keyed, characters} {
		for _, c := range giving() {
			if c := gives(weigh(20000), c); !comp.Sound(c) {
				t.Errorf("%d: kind %d, V's weight 20000: Sound is false", i, c.Kind)
			}
			for _, n := range []int{20001, 20003, 40000} {
				if c := gives(weigh(n), c); comp.Sound(c) {
					t.Errorf("%d: kind %d, V's weight %d: Sound is true", i, c.Kind, n)
				}
			}
			// the path weighs nothing, nor does the key
			c := path(gives(weigh(20000), c), key(strings.Repeat("p", 20000)))
			if c.Kind == api.Put {
				c.Key = strings.Repeat("k", 20000)
			}
			if !comp.Sound(c) {
				t.Errorf("%d: kind %d: the path weighs something", i, c.Kind)
			}
		}
	}
}

func TestSoundValues(t *testing.T) {
	for _, c := range giving() {
		for _, v := range everyKind() {
			if !comp.Sound(gives(v, c)) || !comp.Sound(gives(list(v), c)) {
				t.Errorf("kind %d, V %+v: Sound is false", c.Kind, v)
			}
		}
		for _, v := range oddOnes() {
			if comp.Sound(gives(v, c)) || comp.Sound(gives(list(null(), v), c)) || comp.Sound(gives(object(at("k", v)), c)) {
				t.Errorf("kind %d, V %+v: Sound is true", c.Kind, v)
			}
		}
	}
}

// By the chapter's words, field by field, of components with many things in them.
func TestSoundOfAny(t *testing.T) {
	r := rand.New(rand.NewSource(1))
	sound := 0
	for range 200000 {
		c := chanceComp(r, chance(r, 3))
		switch r.Intn(24) {
		case 0:
			c.I = r.Intn(4) - 2
		case 1:
			c.J = r.Intn(4) - 2
		case 2:
			c.N = r.Int63n(4) - 2
		case 3:
			c.S = texts[r.Intn(len(texts))]
		case 4:
			c.Key = texts[r.Intn(len(texts))]
		case 5:
			c.V = chance(r, 2)
		case 6:
			c.Path = append(c.Path, steps(r.Intn(14))...)
		}
		want := plainSound(c)
		if want {
			sound++
		}
		if comp.Sound(c) != want {
			t.Fatalf("Sound(%+v) is %v", c, !want)
		}
	}
	if sound < 50000 || sound > 190000 {
		t.Errorf("%d are sound", sound)
	}
}
