package turn_test

import (
	"math"
	"math/rand"
	"reflect"
	"runtime/debug"
	"strings"
	"testing"
	"unsafe"

	"conciliator/api"
	"conciliator/turn"
)

// blocks are the places of all memory that components have, behind their lists' lengths too.
func blocks(all ...api.Comp) []unsafe.Pointer {
	var out []unsafe.Pointer
	for _, c := range all {
		out = append(out, letters(c.Key), letters(c.S), unsafe.Pointer(unsafe.SliceData(c.Path)))
		for _, s := range c.Path {
			out = append(out, letters(s.Key))
		}
		out = valueBlocks(c.V, out)
	}
	return out
}

func valueBlocks(v api.Val, out []unsafe.Pointer) []unsafe.Pointer {
	out = append(out, letters(v.S), unsafe.Pointer(unsafe.SliceData(v.L)), unsafe.Pointer(unsafe.SliceData(v.O)))
	for _, x := range v.L {
		out = valueBlocks(x, out)
	}
	for _, f := range v.O {
		out = valueBlocks(f.V, append(out, letters(f.Key)))
	}
	return out
}

func letters(s string) unsafe.Pointer {
	if s == "" {
		return nil
	}
	return unsafe.Pointer(unsafe.StringData(s))
}

// nowhereAtAll is where all lists are that have no memory.
var nowhereAtAll = unsafe.Pointer(unsafe.SliceData(make([]api.Val, 0)))

// apart says that no two of these are the same place.
func apart(all []unsafe.Pointer) bool {
	had := map[unsafe.Pointer]bool{}
	for _, p := range all {
		if had[p] {
			return false
		}
		had[p] = p != nil && p != nowhereAtAll
	}
	return true
}

// pairs are components of all kinds, with something in all their fields: one works where the other one does, above it, inside it, or elsewhere.
func pairs() []struct{ a, b api.Comp } {
	var all []struct{ a, b api.Comp }
	p := func(steps ...api.Step) []api.Step { // others lie behind it in its memory
		return append(append(way(), steps...), key("behind"))[:len(steps)]
	}
	ways := [][]api.Step{
		p(), p(key("k")), p(nth(4)), p(nth(5), key("k")), p(key("k"), nth(5), key("k")), p(key("m"), key("k"), nth(4), key("m")),
		p(api.Step{List: true, I: 6, Key: "\xff"}, api.Step{I: 3, Key: "m"}),
	}
	for _, a := range ladenOnes() {
		for _, b := range ladenOnes() {
			for _, pa := range ways {
				for _, pb := range ways {
					a.Path, b.Path = pa, pb
					all = append(all, struct{ a, b api.Comp }{a, b})
				}
			}
			a.Path, b.Path, b.I = p(nth(5), key("m")), p(), 5
			all = append(all, struct{ a, b api.Comp }{a, b})
		}
	}
	return all
}

func TestNewMemory(t *testing.T) {
	for _, r := range pairs() {
		for _, left := range []bool{true, false} {
			a, b := twin(r.a), twin(r.b)
			all := comps(a, b)
			if !apart(blocks(all...)) {
				t.Fatal("the test itself shares memory")
			}
			all = append(all, turn.Turn(a, b, left)...)
			all = append(all, turn.Turn(a, b, left)...)
			if !apart(blocks(all...)) {
				t.Errorf("memory is shared by what %+v behind %+v answers", a, b)
			}
		}
	}
}

// Where lists and texts of one that is handed in share memory, those of the answer stand apart.
func TestListsStandApart(t *testing.T) {
	k := strings.Clone("k")
	v := twinValue(rich())
	a := path(put(k, list(v, v, object(at(k, v), at(k, v)))), nth(1), key(k), key(k))
	a.S = k
	for _, b := range comps(ins(0, v), rem(0), move(0, 2), set(0, v), path(put("m", v), a.Path[:2]...), path(del("m"), a.Path...), a, add(1)) {
		if got := turn.Turn(a, b, true); len(got) != 1 || !apart(blocks(got...)) {
			t.Errorf("behind %+v: %+v", b, got)
		}
	}
	two := turn.Turn(gives(list(v, v), path(tdel(1, 5), key(k), key(k))), path(tins(3, "x"), key(k), key(k)), true)
	if len(two) != 2 || !apart(blocks(two...)) {
		t.Errorf("%+v", two)
	}
}

// Nothing lies behind the lists of what is answered.
func nothingBehind(c api.Comp) bool {
	return empty(c.Path[len(c.Path):cap(c.Path)]) && emptyValue(c.V)
}

func emptyValue(v api.Val) bool {
	ok := empty(v.L[len(v.L):cap(v.L)]) && empty(v.O[len(v.O):cap(v.O)])
	for _, x := range v.L {
		ok = ok && emptyValue(x)
	}
	for _, f := range v.O {
		ok = ok && emptyValue(f.V)
	}
	return ok
}

func empty[T any](l []T) bool {
	var none T
	for _, x := range l {
		if !reflect.DeepEqual(x, none) {
			return false
		}
	}
	return true
}

// No call changes what it is handed, nor what lies behind its lists' lengths, nor hands that out.
func TestNothingIsChanged(t *testing.T) {
	for _, r := range pairs() {
		a, b := twin(r.a), twin(r.b)
		for _, left := range []bool{true, false} {
			for _, c := range turn.Turn(r.a, r.b, left) {
				if !nothingBehind(c) {
					t.Fatalf("behind the lists of %+v", c)
				}
				_, _, _ = append(c.Path, key("z")), append(c.V.L, txt("z")), append(c.V.O, at("z", txt("z")))
			}
		}
		if !alike(comps(a, b), comps(r.a, r.b)) {
			t.Fatalf("changed: %+v, %+v", r.a, r.b)
		}
		for _, c := range comps(r.a, r.b) {
			if c.Path[:len(c.Path)+1][len(c.Path)].Key != "behind" || c.V.L[:4][3].S != "behind" || c.V.O[:3][2].Key != "behind" {
				t.Fatalf("changed behind a list of %+v", c)
			}
		}
	}
	a := path(twin(laden(api.Put)), way(key("m"))[:0]...)
	a.V.L, a.V.O = a.V.L[:0], a.V.O[:0]
	for _, b := range comps(add(1), ins(0, txt("y")), tdel(0, 1), del("k"), path(add(1), nth(0))) {
		for _, c := range turn.Turn(a, b, true) {
			if cap(c.Path)+cap(c.V.L)+cap(c.V.O) > 0 {
				t.Errorf("memory behind an empty list: %+v", c)
			}
		}
	}
}

// change changes all that is in a value.
func change(v *api.Val) {
	for i := range v.L {
		change(&v.L[i])
	}
	for i := range v.O {
		change(&v.O[i].V)
		v.O[i].Key += "z"
	}
	v.Kind, v.N, v.S = v.Kind+50, v.N+51, v.S+"z"
}

func changeAll(all []api.Comp) {
	for k := range all {
		c := &all[k]
		for i := range c.Path {
			c.Path[i] = api.Step{List: !c.Path[i].List, I: 52, Key: "z"}
		}
		change(&c.V)
		c.Kind, c.Key, c.I, c.J, c.N, c.S = 53, "z", 54, 55, 56, "z"
	}
}

// What is done to an answer leaves what was handed in as it was, and the other way round.
func TestAnswersStandAlone(t *testing.T) {
	for _, r := range pairs() {
		for _, left := range []bool{true, false} {
			in := twins(comps(r.a, r.b))
			got := turn.Turn(in[0], in[1], left)
			had := twins(got)
			changeAll(in)
			if !alike(got, had) {
				t.Fatalf("a change of what was handed in came through: %+v behind %+v", r.a, r.b)
			}
			in = twins(comps(r.a, r.b))
			changeAll(turn.Turn(in[0], in[1], left))
			if !alike(in, comps(r.a, r.b)) {
				t.Fatalf("a change of an answer came through: %+v behind %+v", r.a, r.b)
			}
			if again := turn.Turn(in[0], in[1], left); !alike(again, had) {
				t.Fatalf("asked anew, %+v behind %+v: %+v", r.a, r.b, again)
			}
		}
	}
}

// No numbers, kinds, keys and paths make a call panic: most of these are beyond what the chapters speak of. All but places and numbers stays.
func TestAnything(t *testing.T) {
	edges := []int{0, 1, 2, 3, 1<<31 - 1, 1 << 31, 1<<32 + 1, 1<<62 + 1, math.MaxInt - 1, math.MaxInt}
	for _, n := range edges[1:] {
		edges = append(edges, -n, ^n)
	}
	r := rand.New(rand.NewSource(8))
	some := func() int { return edges[r.Intn(len(edges))] }
	keys := []string{"", "k", "\xff"}
	one := func() api.Comp {
		c := api.Comp{Kind: uint8(1 + r.Intn(9)), Key: keys[r.Intn(3)], I: some(), J: some(), N: int64(some()), S: keys[r.Intn(3)], V: chance(r, 1)}
		if r.Intn(16) == 0 {
			c.Kind = uint8(r.Intn(256))
		}
		return c
	}
	for range 200000 {
		a, b := one(), one()
		for range r.Intn(3) {
			s := api.Step{List: r.Intn(2) == 0, I: some() * r.Intn(2), Key: keys[r.Intn(3)]}
			a.Path, b.Path = append(a.Path, s), append(b.Path, s)
		}
		for range r.Intn(2) {
			a.Path = append(a.Path, api.Step{List: r.Intn(2) == 0, I: some(), Key: keys[r.Intn(3)]})
		}
		for _, c := range append(turn.Turn(a, b, true), turn.Turn(a, b, false)...) {
			c.I, c.J, c.N = a.I, a.J, a.N
			if len(c.Path) == len(a.Path) {
				for i, s := range a.Path {
					c.Path[i].I = s.I
				}
			}
			if !alike(comps(c), comps(a)) {
				t.Fatalf("%+v behind %+v: %+v", a, b, c)
			}
		}
	}
}

// Each call ends, however deep a value lies in a component: a small stack stands in for one that outgrows a great one.
func TestVeryDeepValues(t *testing.T) {
	defer debug.SetMaxStack(debug.SetMaxStack(1 << 20))
	const most = 200000
	v := txt("x")
	for i := range most {
		if i%2 == 0 {
			v = list(v)
		} else {
			v = object(at("k", v))
		}
	}
	for _, a := range ordinary() {
		for _, b := range comps(ins(0, v), put("k", v), tdel(0, 9), path(rem(0), nth(0))) {
			for _, c := range append(turn.Turn(gives(v, a), gives(v, b), true), turn.Turn(gives(v, path(a, nth(7))), b, true)...) {
				if n := deep(c.V); n != most {
					t.Errorf("%d deep", n)
				}
			}
		}
	}
}

// deep says in how many lists and objects a value's innermost lies.
func deep(v api.Val) int {
	n := 0
	for ; len(v.L)+len(v.O) > 0; n++ {
		if len(v.L) > 0 {
			v = v.L[0]
		} else {
			v = v.O[0].V
		}
	}
	return n
}

func TestVeryLongPaths(t *testing.T) {
	p := make([]api.Step, 100001)
	p[99999], p[100000] = key("x"), nth(5)
	a, b := path(rem(2), p...), path(rem(2), p...)
	both(a, b).holds(t)
	b.Path = p[:100000]
	both(a, b, path(a, append(append(way(), p[:100000]...), nth(4))...)).holds(t)
	b.Path = append(append(way(), p[:99999]...), key("y"))
	alone(a, b).holds(t)
	alone(b, a).holds(t)
}
