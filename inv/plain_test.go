package inv_test

import (
	"math"
	"math/rand"
	"testing"
	"unicode/utf8"

	"conciliator/api"
	"conciliator/comp"
	"conciliator/inv"
	"conciliator/text"
	"conciliator/val"
)

// The chapter's words, one by one, to be held against what is built.

func plainTurned(v api.Val, c api.Comp) (api.Comp, api.Errno) {
	if e := comp.Check(v, c); e != api.OK {
		return api.Comp{}, e
	}
	x := v
	for _, s := range c.Path {
		x = plainStep(x, s)
	}
	var t api.Comp
	switch c.Kind {
	case api.Add:
		t = add(int64(-uint64(c.N)))
	case api.Put, api.Del:
		t = del(c.Key)
		if i, there := val.Field(x, c.Key); there {
			t = put(c.Key, x.O[i].V)
		}
	case api.Ins:
		t = rem(c.I)
	case api.Rem:
		t = ins(c.I, x.L[c.I])
	case api.Set:
		t = set(c.I, x.L[c.I])
	case api.Move:
		t = move(c.J, c.I)
	case api.Tins:
		t = tdel(c.I, int64(len(plainCharacters(c.S))))
	case api.Tdel:
		t = tins(c.I, "")
		for _, s := range plainCharacters(x.S)[c.I : c.I+int(c.N)] {
			t.S += s
		}
	}
	t.Path = c.Path
	if !comp.Sound(t) {
		return api.Comp{}, api.ErrComp
	}
	return t, api.OK
}

func plainStep(v api.Val, s api.Step) api.Val {
	if s.List {
		return v.L[s.I]
	}
	i, _ := val.Field(v, s.Key)
	return v.O[i].V
}

func plainCharacters(s string) []string {
	var all []string
	for s != "" {
		_, n := utf8.DecodeRuneInString(s)
		all, s = append(all, s[:n]), s[n:]
	}
	return all
}

func plainAll(v api.Val, l []api.Comp) ([]api.Comp, api.Errno) {
	if len(l) > 200 {
		return nil, api.ErrLimit
	}
	var all []api.Comp
	for _, c := range l {
		t, e := plainTurned(v, c)
		if e != api.OK {
			return nil, e
		}
		all = behind(ops(t), all)
		v, _ = comp.Do(v, c)
	}
	return all, api.OK
}

// edges are numbers at the ends of what is spoken of, and of what there is.
var edges = []int{
	0, 1, 2, 3, -1, -2, -3, 1<<31 - 1, 1 << 31, -1 << 31, 1<<32 + 1, 1<<62 + 1, -1 << 62,
	math.MaxInt - 1, math.MaxInt, math.MinInt, math.MinInt + 1,
}

// holdsPlain says that All and Turned answer what the chapter's words say; which error that is.
func holdsPlain(t *testing.T, v api.Val, l []api.Comp) api.Errno {
	t.Helper()
	was, had := twinValue(v), twins(l)
	got, e := inv.All(v, l)
	want, f := plainAll(v, l)
	if e != f || !alike(got, want) {
		t.Fatalf("All(%+v, %+v): %+v, %d, not %+v, %d", v, l, got, e, want, f)
	}
	for _, c := range l {
		one, g := inv.Turned(v, c)
		plain, h := plainTurned(v, c)
		if g != h || !alike(ops(one), ops(plain)) {
			t.Fatalf("Turned(%+v, %+v): %+v, %d, not %+v, %d", v, c, one, g, plain, h)
		}
	}
	if !alikeValues(v, was) || !alike(l, had) {
		t.Fatalf("changed: %+v, %+v", was, had)
	}
	return f
}

// spoil makes some of a value such as is none: of another kind, no UTF-8, keys that fall, things that its kind does not speak of.
func spoil(r *rand.Rand, v *api.Val) {
	for i := range v.L {
		spoil(r, &v.L[i])
	}
	for i := range v.O {
		spoil(r, &v.O[i].V)
	}
	switch r.Intn(16) {
	case 0:
		v.Kind = uint8(r.Intn(256))
	case 1:
		v.N++
	case 2, 3, 4:
		bad := []string{"\xff", "\xe2\x82", "\xac", "\xc3", "\xa9a"}
		v.S = bad[r.Intn(5)] + v.S + bad[r.Intn(5)]
	case 5:
		if n := len(v.O); n > 1 {
			v.O[0], v.O[n-1] = v.O[n-1], v.O[0]
		}
	}
}

// What may be done.
func TestPlain(t *testing.T) {
	r := rand.New(rand.NewSource(1))
	for range 20000 {
		v := chance(r, 3)
		if e := holdsPlain(t, v, chanceOp(r, v, 6)); e != api.OK {
			t.Fatalf("error %d", e)
		}
	}
}

// What often can't: values that are none, operations meant for another value, and one of any other component in them.
func TestPlainErrors(t *testing.T) {
	r := rand.New(rand.NewSource(2))
	count := map[api.Errno]int{}
	for range 40000 {
		v := chance(r, 3)
		l := chanceOp(r, v, 6)
		switch r.Intn(3) {
		case 0:
			spoil(r, &v)
		case 1:
			v = chance(r, 3)
		default:
			i := r.Intn(len(l) + 1)
			l = behind(behind(l[:i], wild(r, 2)), l[i:])
		}
		count[holdsPlain(t, v, l)]++
	}
	for _, e := range []api.Errno{api.OK, api.ErrComp, api.ErrPath, api.ErrKind, api.ErrKey, api.ErrPlace} {
		if count[e] < 100 {
			t.Errorf("error %d came %d times", e, count[e])
		}
	}
}

// No numbers, kinds, keys and paths make a call panic.
func TestAnything(t *testing.T) {
	r := rand.New(rand.NewSource(3))
	for range 20000 {
		v := chance(r, 3)
		spoil(r, &v)
		holdsPlain(t, v, wild(r, 7))
	}
	for _, n := range edges {
		for _, m := range edges {
			for k := range 12 {
				c := api.Comp{Kind: uint8(k), I: n, J: m, N: int64(m), S: "x"}
				for _, d := range ops(c, set(n, txt("x")), move(n, m), tdel(n, int64(m)), add(int64(n)), path(rem(m), nth(n))) {
					holdsPlain(t, list(list(number(1), number(2)), txt("ab")), ops(d, d))
					holdsPlain(t, txt("\u20acb"), ops(d, d))
					holdsPlain(t, number(3), ops(d, d))
				}
			}
		}
	}
}

// Texts of pieces of characters: each byte that is no part of one is one, too.
func TestPieces(t *testing.T) {
	r := rand.New(rand.NewSource(4))
	const some = "a\u00e9\u20ac\U0001f600\xff\xf0\x9f\x98\xe2\x82\xc3\xa9\x80\x80b"
	count := map[api.Errno]int{}
	for range 20000 {
		from := r.Intn(len(some))
		s := some[from : from+r.Intn(len(some)-from)+1]
		n := text.Len(s)
		i := r.Intn(n)
		count[holdsPlain(t, txt(s), ops(tdel(i, 1+r.Int63n(int64(n-i))), tins(0, "\u20ac")))]++
	}
	if count[api.OK] < 300 || count[api.ErrComp] < 300 {
		t.Errorf("%v", count)
	}
}
