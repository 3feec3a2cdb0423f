package op_test

import (
	"math/rand"
	"reflect"
	"runtime/debug"
	"strings"
	"testing"
	"unsafe"

	"conciliator/api"
	"conciliator/op"
)

// blocks are the places of all memory that operations have, behind their lists' lengths too.
func blocks(all ...[]api.Comp) []unsafe.Pointer {
	var out []unsafe.Pointer
	for _, l := range all {
		out = append(out, unsafe.Pointer(unsafe.SliceData(l)))
		for _, c := range l {
			out = append(out, letters(c.Key), letters(c.S), unsafe.Pointer(unsafe.SliceData(c.Path)))
			for _, s := range c.Path {
				out = append(out, letters(s.Key))
			}
			out = valueBlocks(c.V, out)
		}
	}
	return out
}

func valueBlocks(v api.Val, out []unsafe.Pointer) []unsafe.Pointer {
	out = append(out, letters(v.S), unsafe.Pointer(unsafe.SliceData(v.L)), unsafe.Pointer(unsafe.SliceData(v.O)))
	for _, x := range v.L {
		out = valueBlocks(x, out)
	}
	for _, f := range v.O {
		out = valueBlocks(f.V, append(out, letters(f.Key)))
	}
	return out
}

func letters(s string) unsafe.Pointer {
	if s == "" {
		return nil
	}
	return unsafe.Pointer(unsafe.StringData(s))
}

// nowhereAtAll is where all lists are that have no memory.
var nowhereAtAll = unsafe.Pointer(unsafe.SliceData(make([]api.Val, 0)))

// distinct says that no two of these are the same place.
func distinct(all []unsafe.Pointer) bool {
	had := map[unsafe.Pointer]bool{}
	for _, p := range all {
		if had[p] {
			return false
		}
		had[p] = p != nil && p != nowhereAtAll
	}
	return true
}

// pair are two operations, and what they are for.
type pair struct{ a, b []api.Comp }

// pairs are such of all kinds: with nothing, with one another, cut in two, come to nothing, one together; others lie behind them in their memory.
func pairs() []pair {
	laden := ladenOnes()
	x := list(txt("x"), object(at("p", list(txt("q")))))
	p := way(key("k"), nth(2))
	many := ops(path(ins(1, x), p...), path(tins(2, "ab"), key("t")), path(tins(4, "cd"), key("t")), put("m", x), put("m", x), path(add(1), key("n")))
	all := []pair{
		{nil, nil}, {laden, nil}, {nil, laden}, {laden[:1], laden[1:]}, {laden, laden}, {many, many}, {many, laden}, {laden, many},
		{ordinary(), laden}, {many[:3], ops(path(rem(0), key("k")))}, {ops(path(rem(2), key("k"))), many}, {ops(put("k", x)), many},
		{ops(path(tdel(0, 9), key("t"))), many}, {many, ops(path(tdel(1, 2), key("t")), path(tdel(0, 1), key("t")))},
		{many[:2], many[2:]}, {many[3:4], many[4:]}, {many[5:], ops(path(add(-1), key("n")), put("o", x))},
		{ops(move(1, 1), put("m", x)), ops(put("m", x))},
	}
	for i := range all {
		all[i] = pair{ahead(all[i].a), ahead(all[i].b)}
	}
	return all
}

// ahead is the same operation, with another component behind it in its memory.
func ahead(l []api.Comp) []api.Comp {
	return append(behind(l, nil), put("behind", txt("behind")))[:len(l)]
}

// answers are all that is answered of two operations.
func answers(r pair) [][]api.Comp {
	c, d := op.Cross(r.a, r.b)
	return [][]api.Comp{c, d, op.Join(r.a, r.b), op.Trim(r.a), op.Trim(r.b)}
}

func TestNewMemory(t *testing.T) {
	for _, r := range pairs() {
		a, b := twins(r.a), twins(r.b)
		if !distinct(blocks(a, b)) {
			t.Fatal("the test itself shares memory")
		}
		all := append(answers(pair{a, b}), answers(pair{a, b})...)
		if !distinct(blocks(append(all, a, b)...)) {
			t.Errorf("memory is shared by what is answered of %+v and %+v", a, b)
		}
	}
}

// Where what is handed in shares memory, each answer's lists and texts stand apart.
func TestListsStandApart(t *testing.T) {
	k := strings.Clone("k")
	v := twinValue(rich())
	c := path(put(k, list(v, v, object(at(k, v), at(k, v)))), nth(1), key(k), key(k))
	c.S = k
	d := path(api.Comp{Kind: api.Tdel, Key: k, N: 9, V: v, S: k}, c.Path...)
	e := path(api.Comp{Kind: api.Tins, Key: k, I: 4, V: v, S: k}, c.Path...)
	for _, r := range []pair{
		{ops(c, c, c), nil}, {nil, ops(c, d, c)}, {ops(c), ops(c)}, {ops(c, d), ops(e, e)}, {ops(d), ops(e)}, {ops(e, d, e), ops(e, c, d)},
		{ops(d, d, e, c), ops(path(rem(0)))},
	} {
		x, y := op.Cross(r.a, r.b)
		if !distinct(blocks(x, y)) {
			t.Errorf("Cross(%+v, %+v)", r.a, r.b)
		}
		for _, l := range [][]api.Comp{op.Join(r.a, r.b), op.Trim(r.a), op.Trim(r.b)} {
			if !distinct(blocks(l)) {
				t.Errorf("%+v", l)
			}
		}
	}
}

// done are values, and operations for them.
func done() []struct {
	v api.Val
	l []api.Comp
} {
	x := list(txt("new"), object(at("p", list(txt("q")))))
	v := object(at("k", list(txt("ab"), list(txt("cd")), object(at("ef", txt("gh"))))), at("n", number(1)), at("t", txt("ij")))
	l := ops(put("m", x), path(ins(1, x), key("k")), path(tins(1, "y"), key("t")), path(add(1), key("n")), del("n"), path(move(0, 1), key("k")))
	all := []struct {
		v api.Val
		l []api.Comp
	}{{rich(), nil}, {v, nil}, {txt("x"), nil}}
	for i := range len(l) + 1 {
		all = append(all, struct {
			v api.Val
			l []api.Comp
		}{v, ahead(l[:i])})
	}
	return all
}

func TestDoIsNewMemory(t *testing.T) {
	for _, r := range done() {
		v, l := twinValue(r.v), twins(r.l)
		all := valueBlocks(v, blocks(l))
		if !distinct(all) {
			t.Fatal("the test itself shares memory")
		}
		if !distinct(valueBlocks(do(t, v, l), valueBlocks(do(t, v, l), all))) {
			t.Errorf("Do(%+v, %+v) shares memory", v, l)
		}
	}
	l := twinValue(list(txt("x"), object(at("k", txt("y")))))
	v := object(at("a", l), at("b", l), at("c", object(at("k", l), at("m", l))))
	for _, a := range [][]api.Comp{nil, ops(put("d", l)), ops(put("d", v), put("e", v), path(ins(0, v), key("a")))} {
		if !distinct(valueBlocks(do(t, v, a), nil)) {
			t.Errorf("two lists of Do of %+v share memory", a)
		}
	}
}

// nothingBehind says that nothing lies behind a list, nor behind those in it.
func nothingBehind(l []api.Comp) bool {
	ok := empty(l[len(l):cap(l)])
	for _, c := range l {
		ok = ok && empty(c.Path[len(c.Path):cap(c.Path)]) && emptyValue(c.V)
	}
	return ok
}

func emptyValue(v api.Val) bool {
	ok := empty(v.L[len(v.L):cap(v.L)]) && empty(v.O[len(v.O):cap(v.O)])
	for _, x := range v.L {
		ok = ok && emptyValue(x)
	}
	for _, f := range v.O {
		ok = ok && emptyValue(f.V)
	}
	return ok
}

func empty[T any](l []T) bool {
	var none T
	for _, x := range l {
		if !reflect.DeepEqual(x, none) {
			return false
		}
	}
	return true
}

// No call changes what it is handed, nor what lies behind its lists' lengths, nor hands that out.
func TestNothingIsChanged(t *testing.T) {
	last := put("behind", txt("behind"))
	for _, r := range pairs() {
		a, b := twins(r.a), twins(r.b)
		for _, l := range answers(r) {
			if !nothingBehind(l) {
				t.Fatalf("behind the lists of %+v", l)
			}
			_ = append(l, add(7))
		}
		for _, l := range [][]api.Comp{r.a, r.b} {
			op.Check(rich(), l)
			op.Do(rich(), l)
			if !alike(l[:len(l)+1][len(l):], ops(last)) {
				t.Fatalf("changed behind %+v", l)
			}
			for _, c := range l {
				if len(c.V.L) == 3 && (c.V.L[:4][3].S != "behind" || c.V.O[:3][2].Key != "behind" || c.Path[:3][2].Key != "behind") {
					t.Fatalf("changed behind a list of %+v", c)
				}
			}
		}
		if !alike(a, r.a) || !alike(b, r.b) {
			t.Fatalf("changed: %+v, %+v", r.a, r.b)
		}
	}
	for _, r := range done() {
		v, l := twinValue(r.v), twins(r.l)
		w := do(t, r.v, r.l)
		op.Check(r.v, r.l)
		op.Do(r.v, append(behind(r.l, nil), rem(9)))
		if !alikeValues(v, r.v) || !alike(l, r.l) || !emptyValue(w) {
			t.Fatalf("changed: %+v, %+v", r.v, r.l)
		}
	}
	v, l := rich(), ladenOnes()
	for _, c := range l {
		c.V.L, c.V.O, c.Path = c.V.L[:0], c.V.O[:0], c.Path[:0]
		if got := op.Trim(ops(c)); cap(got[0].Path)+cap(got[0].V.L)+cap(got[0].V.O) > 0 {
			t.Errorf("memory behind an empty list: %+v", got)
		}
	}
	v.L, v.O = v.L[:0], v.O[:0]
	if got := do(t, v, l[:0]); cap(got.L)+cap(got.O) > 0 {
		t.Errorf("memory behind an empty list: %+v", got)
	}
}

// change changes all that is in a value.
func change(v *api.Val) {
	for i := range v.L {
		change(&v.L[i])
	}
	for i := range v.O {
		change(&v.O[i].V)
		v.O[i].Key += "z"
	}
	v.Kind, v.N, v.S = v.Kind+50, v.N+51, v.S+"z"
}

func changeAll(all ...[]api.Comp) {
	for _, l := range all {
		for k := range l {
			c := &l[k]
			for i := range c.Path {
				c.Path[i] = api.Step{List: !c.Path[i].List, I: 52, Key: "z"}
			}
			change(&c.V)
			c.Kind, c.Key, c.I, c.J, c.N, c.S = 53, "z", 54, 55, 56, "z"
		}
	}
}

func twinLists(all [][]api.Comp) [][]api.Comp {
	var out [][]api.Comp
	for _, l := range all {
		out = append(out, twins(l))
	}
	return out
}

// What is done to an answer leaves what was handed in as it was, and the other answers, and the other way round.
func TestAnswersStandAlone(t *testing.T) {
	for _, r := range pairs() {
		in := pair{twins(r.a), twins(r.b)}
		got := answers(in)
		had := twinLists(got)
		changeAll(in.a, in.b)
		for i := range got {
			if !alike(got[i], had[i]) {
				t.Fatalf("a change of what was handed in came through: %+v and %+v", r.a, r.b)
			}
		}
		in = pair{twins(r.a), twins(r.b)}
		got = answers(in)
		for i := range got {
			changeAll(got[i])
			for j := i + 1; j < len(got); j++ {
				if !alike(got[j], had[j]) {
					t.Fatalf("a change of an answer came through to another one: %+v and %+v", r.a, r.b)
				}
			}
		}
		if !alike(in.a, r.a) || !alike(in.b, r.b) {
			t.Fatalf("a change of an answer came through: %+v and %+v", r.a, r.b)
		}
		for i, l := range answers(in) {
			if !alike(l, had[i]) {
				t.Fatalf("asked anew, %+v and %+v: %+v", r.a, r.b, l)
			}
		}
	}
	for _, r := range done() {
		v, l := twinValue(r.v), twins(r.l)
		got := do(t, v, l)
		had := twinValue(got)
		change(&v)
		changeAll(l)
		if !alikeValues(got, had) {
			t.Fatalf("a change of what was handed in came through: %+v, %+v", r.v, r.l)
		}
		v, l = twinValue(r.v), twins(r.l)
		got = do(t, v, l)
		change(&got)
		if !alikeValues(v, r.v) || !alike(l, r.l) || !alikeValues(do(t, v, l), had) {
			t.Fatalf("a change of an answer came through: %+v, %+v", r.v, r.l)
		}
	}
}

// Each call ends, however deep a value lies, and however many components there are: a small stack stands in for what outgrows a great one.
func TestVeryDeepValues(t *testing.T) {
	defer debug.SetMaxStack(debug.SetMaxStack(1 << 20))
	const most = 100000
	v := txt("x")
	for i := range most {
		if i%2 == 0 {
			v = list(v)
		} else {
			v = object(at("k", v))
		}
	}
	l := ops(put("k", v), put("k", v), set(0, v))
	c, d := op.Cross(l, ops(ins(1, v), add(1)))
	for _, l := range [][]api.Comp{c, d[:1], op.Trim(l), op.Join(l, l)} {
		for _, c := range l {
			if n := deep(c.V); n != most {
				t.Errorf("%d deep", n)
			}
		}
	}
	for _, l := range [][]api.Comp{nil, ops(put("new", number(1)))} {
		if n := deep(do(t, v, l)); n != most {
			t.Errorf("%d deep", n)
		}
	}
	if e := op.Check(v, ops(put("new", number(1)), put("k", v))); e != api.ErrComp {
		t.Errorf("one that is too deep: %d", e)
	}
}

// deep says in how many lists and objects a value's innermost lies.
func deep(v api.Val) int {
	n := 0
	for ; len(v.L)+len(v.O) > 0; n++ {
		if len(v.L) > 0 {
			v = v.L[0]
		} else {
			v = v.O[0].V
		}
	}
	return n
}

func TestVeryManyComponents(t *testing.T) {
	defer debug.SetMaxStack(debug.SetMaxStack(1 << 20))
	const most = 100000
	adds, typed := make([]api.Comp, most), make([]api.Comp, most)
	for i := range most {
		adds[i], typed[i] = path(add(1), nth(i)), tins(i, "x")
	}
	in := ops(ins(0, txt("x")))
	c, d := op.Cross(adds, in)
	if len(c) != most || c[most-1].Path[0].I != most || !alike(d, in) {
		t.Errorf("%d behind one", len(c))
	}
	d, c = op.Cross(in, adds)
	if len(c) != most || c[0].Path[0].I != 1 || !alike(d, in) {
		t.Errorf("one behind %d", len(c))
	}
	c, d = op.Cross(typed, ops(tdel(0, 1)))
	if len(c) != most || len(d) != 1 || d[0].I != most {
		t.Errorf("%d behind a Tdel: %+v", len(c), d)
	}
	for _, l := range [][]api.Comp{op.Trim(typed), op.Join(typed[:most/2], typed[most/2:])} {
		if len(l) != 1 || len(l[0].S) != most {
			t.Errorf("%d of %d that are one", len(l), most)
		}
	}
	if l := op.Trim(adds); !alike(l, adds) {
		t.Errorf("%d of %d that stay", len(l), most)
	}
	if e := op.Check(list(), adds); e != api.ErrLimit {
		t.Errorf("Check of %d: %d", most, e)
	}
}

func TestVeryLongPaths(t *testing.T) {
	p := make([]api.Step, 100001)
	p[99999], p[100000] = key("x"), nth(5)
	a, b := path(add(1), p...), path(rem(2), p[:100000]...)
	c, d := op.Cross(ops(a), ops(b))
	if len(c) != 1 || c[0].Path[100000].I != 4 || !alike(d, ops(b)) {
		t.Errorf("%d, %d", len(c), len(d))
	}
	if l := op.Trim(ops(a, a, b, a)); len(l) != 3 || l[0].N != 2 {
		t.Errorf("%d", len(l))
	}
	tells(t, number(1), ops(a), api.ErrComp)
}

// The same is asked by many at the same time.
func TestAtTheSameTime(t *testing.T) {
	r := rand.New(rand.NewSource(12))
	v := chance(r, 4)
	a, b := chanceOp(r, v, 9), chanceOp(r, v, 9)
	c, d := plainCross(a, b)
	all := make(chan bool)
	for range 8 {
		go func() {
			e, f := op.Cross(a, b)
			w, _ := op.Do(v, a)
			x, _ := plainDo(v, a)
			all <- alike(c, e) && alike(d, f) && alikeValues(w, x) && alike(op.Trim(a), plainTrim(a))
		}()
	}
	for range 8 {
		if !<-all {
			t.Error("something else")
		}
	}
}
