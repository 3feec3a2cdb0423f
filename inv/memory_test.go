package inv_test

import (
	"math/rand"
	"reflect"
	"runtime/debug"
	"strings"
	"testing"
	"unsafe"

	"conciliator/api"
	"conciliator/inv"
)

// blocks are the places of all memory that a value and operations have.
func blocks(v api.Val, all ...[]api.Comp) []unsafe.Pointer {
	out := valueBlocks(v, nil)
	for _, l := range all {
		out = append(out, unsafe.Pointer(unsafe.SliceData(l)))
		for _, c := range l {
			out = append(out, letters(c.Key), letters(c.S), unsafe.Pointer(unsafe.SliceData(c.Path)))
			for _, s := range c.Path {
				out = append(out, letters(s.Key))
			}
			out = valueBlocks(c.V, out)
		}
	}
	return out
}

func valueBlocks(v api.Val, out []unsafe.Pointer) []unsafe.Pointer {
	out = append(out, letters(v.S), unsafe.Pointer(unsafe.SliceData(v.L)), unsafe.Pointer(unsafe.SliceData(v.O)))
	for _, x := range v.L {
		out = valueBlocks(x, out)
	}
	for _, f := range v.O {
		out = valueBlocks(f.V, append(out, letters(f.Key)))
	}
	return out
}

func letters(s string) unsafe.Pointer {
	if s == "" {
		return nil
	}
	return unsafe.Pointer(unsafe.StringData(s))
}

// nowhereAtAll is where all lists are that have no memory.
var nowhereAtAll = unsafe.Pointer(unsafe.SliceData(make([]api.Val, 0)))

// distinct says that no two of these are the same place.
func distinct(all []unsafe.Pointer) bool {
	had := map[unsafe.Pointer]bool{}
	for _, p := range all {
		if had[p] {
			return false
		}
		had[p] = p != nil && p != nowhereAtAll
	}
	return true
}

// job is an operation, and a value to which it may be done; others lie behind their lists in memory.
type job struct {
	v api.Val
	l []api.Comp
}

// jobs are such with all kinds of components.
func jobs() []job {
	x := list(txt("new"), object(at("p", list(txt("q")))))
	v := object(at("k", list(txt("ab"), list(txt("cd")), object(at("ef", txt("gh"))))), at("n", number(1)), at("t", txt("ij\u20ackl")))
	l := ops(
		put("m", x), path(ins(1, x), key("k")), path(rem(1), key("k")), path(set(1, x), key("k")), path(move(0, 1), key("k")),
		path(tins(1, "y\u20acz"), key("t")), path(tdel(1, 4), key("t")), path(add(1), key("n")), path(tdel(0, 1), key("k"), nth(0), nth(0)),
		put("m", x), del("m"), put("t", x), path(put("new", txt("w")), key("k"), nth(2)), path(del("ef"), key("k"), nth(2)), del("k"), put("k", txt("s")), del("n"),
	)
	all := []job{{rich(), nil}, {number(4), ops(add(1))}}
	for i := range len(l) + 1 {
		all = append(all, job{v, l[:i]})
	}
	for _, c := range ordinary() {
		all = append(all, job{list(fitting(c.Kind), txt("z")), ops(path(c, nth(0)))})
	}
	for i := range all {
		all[i] = job{laid(all[i].v), ahead(all[i].l)}
	}
	return all
}

// ahead is the same operation, with another component behind it in its memory, and other things behind its lists.
func ahead(l []api.Comp) []api.Comp {
	all := append(twins(l), put("behind", txt("behind")))
	for i, c := range all {
		all[i].Path = append(behind(c.Path, nil), key("behind"))[:len(c.Path)]
		all[i].V = laid(c.V)
	}
	return all[:len(l)]
}

// laid is the same value, with other things behind its lists.
func laid(v api.Val) api.Val {
	w := api.Val{Kind: v.Kind, N: v.N, S: v.S}
	for _, x := range v.L {
		w.L = append(w.L, laid(x))
	}
	for _, f := range v.O {
		w.O = append(w.O, at(f.Key, laid(f.V)))
	}
	w.L = append(w.L, txt("behind"))[:len(v.L)]
	w.O = append(w.O, at("zbehind", txt("behind")))[:len(v.O)]
	return w
}

// own is the same job, in memory of its own.
func own(j job) job { return job{twinValue(j.v), twins(j.l)} }

// answers are all that is answered of a job: All of it, and Turned of its first component.
func answers(t *testing.T, j job) [][]api.Comp {
	t.Helper()
	undo, e := inv.All(j.v, j.l)
	if e != api.OK {
		t.Fatalf("All(%+v, %+v) tells %d", j.v, j.l, e)
	}
	if len(j.l) == 0 {
		return [][]api.Comp{undo}
	}
	one, _ := inv.Turned(j.v, j.l[0])
	return [][]api.Comp{undo, ops(one)}
}

func TestNewMemory(t *testing.T) {
	for _, j := range jobs() {
		j = own(j)
		if !distinct(blocks(j.v, j.l)) {
			t.Fatal("the test itself shares memory")
		}
		all := append(answers(t, j), answers(t, j)...)
		if !distinct(blocks(j.v, append(all, j.l)...)) {
			t.Errorf("memory is shared by what is answered of %+v and %+v", j.v, j.l)
		}
	}
}

// Where what is handed in shares memory, an answer's lists and texts stand apart.
func TestListsStandApart(t *testing.T) {
	k := strings.Clone("k")
	x := list(txt(k), object(at(k, list(txt(k)))))
	p := way(key(k), nth(0))
	v := object(at(k, list(object(at(k, x), at("l", x)), x, x)), at("l", x), at("m", x))
	l := ops(path(put(k, x), p...), path(put(k, x), p...), path(del("l"), p...), path(rem(1), p[:1]...), path(set(1, x), p[:1]...), path(put(k, x), p...), put("l", x), put("m", x), del("m"), path(tdel(0, 1), key("l"), nth(0)), put("l", x))
	for _, all := range answers(t, job{v, l}) {
		if !distinct(blocks(api.Val{}, all)) {
			t.Errorf("%+v", all)
		}
	}
}

// nothingBehind says that nothing lies behind a list, nor behind those in it.
func nothingBehind(l []api.Comp) bool {
	ok := empty(l[len(l):cap(l)])
	for _, c := range l {
		ok = ok && empty(c.Path[len(c.Path):cap(c.Path)]) && emptyValue(c.V)
	}
	return ok
}

func emptyValue(v api.Val) bool {
	ok := empty(v.L[len(v.L):cap(v.L)]) && empty(v.O[len(v.O):cap(v.O)])
	for _, x := range v.L {
		ok = ok && emptyValue(x)
	}
	for _, f := range v.O {
		ok = ok && emptyValue(f.V)
	}
	return ok
}

func empty[T any](l []T) bool {
	var none T
	for _, x := range l {
		if !reflect.DeepEqual(x, none) {
			return false
		}
	}
	return true
}

// untouched says that what lies behind a job's lists is as jobs laid it there.
func untouched(j job) bool {
	ok := alike(j.l[:len(j.l)+1][len(j.l):], ops(put("behind", txt("behind")))) && untouchedValue(j.v)
	for _, c := range j.l {
		ok = ok && c.Path[:len(c.Path)+1][len(c.Path)].Key == "behind" && untouchedValue(c.V)
	}
	return ok
}

func untouchedValue(v api.Val) bool {
	ok := v.L[:len(v.L)+1][len(v.L)].S == "behind" && v.O[:len(v.O)+1][len(v.O)].Key == "zbehind"
	for _, x := range v.L {
		ok = ok && untouchedValue(x)
	}
	for _, f := range v.O {
		ok = ok && untouchedValue(f.V)
	}
	return ok
}

// No call changes what it is handed, nor what lies behind its lists' lengths, nor hands that out.
func TestNothingIsChanged(t *testing.T) {
	for _, j := range jobs() {
		if !untouched(j) {
			t.Fatal("the test itself is wrong")
		}
		was := own(j)
		for _, l := range answers(t, j) {
			if !nothingBehind(l) {
				t.Fatalf("behind the lists of %+v", l)
			}
			_ = append(l, add(7))
		}
		inv.All(j.v, append(behind(j.l, nil), rem(9))) // and where an error is told
		inv.Turned(j.v, rem(9))
		if !alikeValues(was.v, j.v) || !alike(was.l, j.l) || !untouched(j) {
			t.Fatalf("changed: %+v, %+v", was.v, was.l)
		}
	}
	for _, l := range [][]api.Comp{nil, {}, ordinary()[:0]} {
		if all, _ := inv.All(rich(), l); cap(all) > 0 {
			t.Errorf("memory behind an empty list: %d", cap(all))
		}
	}
	if all, e := inv.All(number(1), ops(add(1), rem(1))); e != api.ErrKind || cap(all) > 0 {
		t.Errorf("memory beside an error: %d, %d", cap(all), e)
	}
}

// change changes all that is in a value.
func change(v *api.Val) {
	for i := range v.L {
		change(&v.L[i])
	}
	for i := range v.O {
		change(&v.O[i].V)
		v.O[i].Key += "z"
	}
	v.Kind, v.N, v.S = v.Kind+50, v.N+51, v.S+"z"
}

func changeAll(l []api.Comp) {
	for k := range l {
		c := &l[k]
		for i := range c.Path {
			c.Path[i] = api.Step{List: !c.Path[i].List, I: 52, Key: "z"}
		}
		change(&c.V)
		c.Kind, c.Key, c.I, c.J, c.N, c.S = 53, "z", 54, 55, 56, "z"
	}
}

// What is done to an answer leaves what was handed in as it was, and the other answers, and the other way round.
func TestAnswersStandAlone(t *testing.T) {
	for _, j := range jobs() {
		in := own(j)
		got := answers(t, in)
		var had [][]api.Comp
		for _, l := range got {
			had = append(had, twins(l))
		}
		change(&in.v)
		changeAll(in.l)
		for i := range got {
			if !alike(got[i], had[i]) {
				t.Fatalf("a change of what was handed in came through: %+v, %+v", j.v, j.l)
			}
		}
		in = own(j)
		got = append(answers(t, in), answers(t, in)...)
		for i := range got {
			changeAll(got[i])
			for k := i + 1; k < len(got); k++ {
				if !alike(got[k], had[k%len(had)]) {
					t.Fatalf("a change of an answer came through to another one: %+v, %+v", j.v, j.l)
				}
			}
		}
		if !alikeValues(in.v, j.v) || !alike(in.l, j.l) {
			t.Fatalf("a change of an answer came through: %+v, %+v", j.v, j.l)
		}
		for i, l := range answers(t, in) {
			if !alike(l, had[i]) {
				t.Fatalf("asked anew, of %+v, %+v: %+v", j.v, j.l, l)
			}
		}
	}
}

// Each call ends, however deep a value lies, and however long a list is: a small stack stands in for what outgrows a great one.
func TestVeryDeepValues(t *testing.T) {
	defer debug.SetMaxStack(debug.SetMaxStack(1 << 20))
	x := nested(100000)
	v := object(at("k", x), at("n", number(1)))
	l := ops(put("n", number(2)), put("m", txt("x")), path(add(1), key("n")), del("n"))
	undo, e := inv.All(v, l)
	want := ops(put("n", number(3)), path(add(-1), key("n")), del("m"), put("n", number(1)))
	if e != api.OK || !alike(undo, want) {
		t.Errorf("%d components, %d", len(undo), e)
	}
	for _, r := range gone(x) {
		for _, c := range ops(r.c, path(r.c, nth(0))) {
			got, e := inv.Turned(list(r.v, number(1)), path(c, nth(0)))
			if e != api.ErrComp || !nought(got) {
				t.Errorf("what is too deep: %d", e)
			}
		}
	}
	for _, c := range ops(put("k", x), ins(0, x), set(0, x)) {
		if got, e := inv.Turned(fitting(c.Kind), c); e != api.ErrComp || !nought(got) {
			t.Errorf("one that is too deep: %d", e)
		}
	}
}

func TestVeryLongLists(t *testing.T) {
	defer debug.SetMaxStack(debug.SetMaxStack(1 << 20))
	const most = 200000
	v := list(make([]api.Val, most)...)
	v.L[most-1] = txt("last")
	for _, r := range []struct{ c, want api.Comp }{
		{rem(most - 1), ins(most-1, txt("last"))}, {ins(most, txt("x")), rem(most)}, {move(0, most-1), move(most-1, 0)}, {set(most-1, api.Val{}), set(most-1, txt("last"))},
	} {
		if got, e := inv.Turned(v, r.c); e != api.OK || !alike(ops(got), ops(r.want)) {
			t.Errorf("Turned of %+v: %+v, %d", r.c, got, e)
		}
	}
	s := strings.Repeat("\u20acx", most)
	got, e := inv.Turned(txt(s), tdel(0, 2*most))
	if e != api.OK || got.S != s || got.Kind != api.Tins {
		t.Errorf("of a long text: %d", e)
	}
	l := make([]api.Comp, most)
	if all, e := inv.All(v, l); e != api.ErrLimit || len(all) > 0 {
		t.Errorf("of %d: %d", most, e)
	}
}

// The same is asked by many at the same time.
func TestAtTheSameTime(t *testing.T) {
	r := rand.New(rand.NewSource(7))
	v := chance(r, 4)
	l := chanceOp(r, v, 40)
	want, _ := plainAll(v, l)
	all := make(chan bool)
	for range 8 {
		go func() {
			got, e := inv.All(v, l)
			all <- e == api.OK && alike(got, want)
		}()
	}
	for range 8 {
		if !<-all {
			t.Error("something else")
		}
	}
}
