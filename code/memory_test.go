package code_test

import (
	"bytes"
	"math/rand"
	"reflect"
	"runtime/debug"
	"strings"
	"testing"
	"unsafe"

	"conciliator/api"
	"conciliator/code"
)

// blocks are the places of all memory that an entry has.
func blocks(e api.Entry) []unsafe.Pointer {
	out := valueBlocks(e.V, []unsafe.Pointer{unsafe.Pointer(unsafe.SliceData(e.Op))})
	for _, c := range e.Op {
		out = append(out, letters(c.Key), letters(c.S), unsafe.Pointer(unsafe.SliceData(c.Path)))
		for _, s := range c.Path {
			out = append(out, letters(s.Key))
		}
		out = valueBlocks(c.V, out)
	}
	return out
}

func valueBlocks(v api.Val, out []unsafe.Pointer) []unsafe.Pointer {
	out = append(out, letters(v.S), unsafe.Pointer(unsafe.SliceData(v.L)), unsafe.Pointer(unsafe.SliceData(v.O)))
	for _, x := range v.L {
		out = valueBlocks(x, out)
	}
	for _, f := range v.O {
		out = valueBlocks(f.V, append(out, letters(f.Key)))
	}
	return out
}

func letters(s string) unsafe.Pointer {
	if s == "" {
		return nil
	}
	return unsafe.Pointer(unsafe.StringData(s))
}

// distinct says that no two of these are the same place.
func distinct(all []unsafe.Pointer) bool {
	had := map[unsafe.Pointer]bool{}
	for _, p := range all {
		if had[p] {
			return false
		}
		had[p] = p != nil
	}
	return true
}

// inside says whether one of these places lies in some bytes' memory.
func inside(b []byte, all []unsafe.Pointer) bool {
	start := uintptr(unsafe.Pointer(unsafe.SliceData(b)))
	for _, p := range all {
		if start <= uintptr(p) && uintptr(p) < start+uintptr(cap(b)) {
			return true
		}
	}
	return false
}

// many are entries with all that there is in them, in memory of their own.
func many() []api.Entry {
	x := list(txt("new"), object(at("p", list(txt("q"), null(), txt("q")))), txt("z"))
	all := []api.Entry{create(x), create(object(at("a", txt("a")), at("b", x))), create(txt("a")), ends(), edit(),
		edit(put("k", x), path(ins(1, x), key("k")), path(rem(1), key("k"), nth(3), key("k")), path(tins(1, "y\u20acz"), key("t")), path(tdel(1, 4), key("t")), del("k"), tins(0, "k"))}
	r := rand.New(rand.NewSource(8))
	for range 200 {
		all = append(all, chanceEntry(r))
	}
	for i := range all {
		all[i] = twin(all[i])
	}
	return all
}

func encoded(t *testing.T, e api.Entry) []byte {
	t.Helper()
	b, f := code.Encode(e)
	if f != api.OK {
		t.Fatalf("Encode(%s) tells %d", tell(e), f)
	}
	return b
}

func decoded(t *testing.T, b []byte) api.Entry {
	t.Helper()
	e, f := code.Decode(b)
	if f != api.OK {
		t.Fatalf("Decode(%s) tells %d", brief(b), f)
	}
	return e
}

// valued is V of an entry, by Value and Back.
func valued(t *testing.T, e api.Entry) (api.Val, []byte) {
	t.Helper()
	b, f := code.Value(e.V)
	v, g := code.Back(b)
	if f != api.OK || g != api.OK {
		t.Fatalf("Value and Back of %s tell %d, %d", tell(e.V), f, g)
	}
	return v, b
}

func TestNewMemory(t *testing.T) {
	for _, e := range many() {
		said(t, distinct(blocks(e)))
		b := encoded(t, e)
		f, g := decoded(t, b), decoded(t, b)
		v, c := valued(t, e)
		w, d := valued(t, e)
		all := append(append(append(blocks(e), blocks(f)...), blocks(g)...), valueBlocks(v, valueBlocks(w, nil))...)
		if !distinct(all) {
			t.Errorf("memory is shared by what is decoded of %s", tell(e))
		}
		for _, x := range [][]byte{b, c, d, encoded(t, e)} {
			if inside(x, all) {
				t.Errorf("memory is shared with the bytes of %s", tell(e))
			}
		}
	}
}

// Bytes stand apart from those of other calls, and nothing lies behind them in their memory.
func TestBytesStandApart(t *testing.T) {
	for _, e := range many() {
		a, b := encoded(t, e), encoded(t, e)
		_, c := valued(t, e)
		_, d := valued(t, e)
		want, wantV := bytes.Clone(a), bytes.Clone(c)
		for _, x := range [][]byte{a, c} {
			for i := range x {
				x[i] ^= 0xff
			}
			_ = append(x, 1, 2, 3)
		}
		if !bytes.Equal(b, want) || !bytes.Equal(d, wantV) || !bytes.Equal(encoded(t, e), want) {
			t.Fatalf("a change of an answer came through: %s", tell(e))
		}
		if cap(b) != len(b) || cap(d) != len(d) {
			t.Fatalf("%d bytes in memory for %d", len(b), cap(b))
		}
	}
}

// laid is the same value, with other things behind its lists.
func laid(v api.Val) api.Val {
	w := api.Val{Kind: v.Kind, N: v.N, S: v.S}
	for _, x := range v.L {
		w.L = append(w.L, laid(x))
	}
	for _, f := range v.O {
		w.O = append(w.O, at(f.Key, laid(f.V)))
	}
	w.L = append(w.L, txt("behind"))[:len(v.L)]
	w.O = append(w.O, at("zbehind", txt("behind")))[:len(v.O)]
	return w
}

// ahead is the same entry, with other things behind its lists.
func ahead(e api.Entry) api.Entry {
	e = twin(e)
	e.V = laid(e.V)
	for i, c := range e.Op {
		e.Op[i].Path = append(behind(c.Path), key("behind"))[:len(c.Path)]
		e.Op[i].V = laid(c.V)
	}
	e.Op = append(behind(e.Op), put("behind", txt("behind")))[:len(e.Op)]
	return e
}

func untouched(e api.Entry) bool {
	ok := e.Op[:len(e.Op)+1][len(e.Op)].Key == "behind" && untouchedValue(e.V)
	for _, c := range e.Op {
		ok = ok && c.Path[:len(c.Path)+1][len(c.Path)].Key == "behind" && untouchedValue(c.V)
	}
	return ok
}

func untouchedValue(v api.Val) bool {
	ok := v.L[:len(v.L)+1][len(v.L)].S == "behind" && v.O[:len(v.O)+1][len(v.O)].Key == "zbehind"
	for _, x := range v.L {
		ok = ok && untouchedValue(x)
	}
	for _, f := range v.O {
		ok = ok && untouchedValue(f.V)
	}
	return ok
}

// nothingBehind says that nothing lies behind an answer's lists in their memory.
func nothingBehind(e api.Entry) bool {
	ok := empty(e.Op[len(e.Op):cap(e.Op)]) && nothingBehindValue(e.V)
	for _, c := range e.Op {
		ok = ok && empty(c.Path[len(c.Path):cap(c.Path)]) && nothingBehindValue(c.V)
	}
	return ok
}

func nothingBehindValue(v api.Val) bool {
	ok := empty(v.L[len(v.L):cap(v.L)]) && empty(v.O[len(v.O):cap(v.O)])
	for _, x := range v.L {
		ok = ok && nothingBehindValue(x)
	}
	for _, f := range v.O {
		ok = ok && nothingBehindValue(f.V)
	}
	return ok
}

func empty[T any](l []T) bool {
	var none T
	for _, x := range l {
		if !reflect.DeepEqual(x, none) {
			return false
		}
	}
	return true
}

// No call changes what it is handed, nor what lies behind its lists' lengths, nor reads or hands that out.
func TestNothingIsChanged(t *testing.T) {
	for _, e := range many() {
		in := ahead(e)
		said(t, untouched(in))
		b := encoded(t, in)
		_, c := valued(t, in)
		if !code.Sound(in) || !bytes.Equal(b, encoded(t, e)) || !bytes.Equal(c, plainValue(e.V)) {
			t.Fatalf("what lies behind the lists of %s counts", tell(e))
		}
		if !alike(in, e) || !untouched(in) {
			t.Fatalf("changed: %s", tell(e))
		}
		long := append(bytes.Clone(b), "behind"...)
		f := decoded(t, long[:len(b)])
		if !bytes.Equal(long, append(bytes.Clone(b), "behind"...)) || !nothingBehind(f) {
			t.Fatalf("changed, or handed out: %s", tell(e))
		}
	}
}

// change changes all that is in a value.
func change(v *api.Val) {
	for i := range v.L {
		change(&v.L[i])
	}
	for i := range v.O {
		change(&v.O[i].V)
		v.O[i].Key += "z"
	}
	v.Kind, v.N, v.S = v.Kind+50, v.N+51, v.S+"z"
}

func changeEntry(e *api.Entry) {
	change(&e.V)
	for k := range e.Op {
		c := &e.Op[k]
		for i := range c.Path {
			c.Path[i] = api.Step{List: !c.Path[i].List, I: 52, Key: "z"}
		}
		change(&c.V)
		c.Kind, c.Key, c.I, c.J, c.N, c.S = 53, "z", 54, 55, 56, "z"
	}
}

// What is done to an answer leaves what was handed in as it was, and the other answers, and the other way round.
func TestAnswersStandAlone(t *testing.T) {
	for _, e := range many() {
		in := twin(e)
		b := encoded(t, in)
		was := bytes.Clone(b)
		changeEntry(&in)
		if !bytes.Equal(b, was) {
			t.Fatalf("a change of an entry came through to its bytes: %s", tell(e))
		}
		in = twin(e)
		for i := range b {
			b[i] ^= 0xff
		}
		if !alike(in, e) {
			t.Fatalf("a change of bytes came through to their entry: %s", tell(e))
		}

		b = bytes.Clone(was)
		f, g := decoded(t, b), decoded(t, b)
		changeEntry(&f)
		if !bytes.Equal(b, was) || !alike(g, e) || !alike(decoded(t, b), e) {
			t.Fatalf("a change of an answer came through: %s", tell(e))
		}
		v, c := valued(t, e)
		for i := range b {
			b[i] ^= 0xff
		}
		for i := range c {
			c[i] ^= 0xff
		}
		if !alike(g, e) || !alikeValues(v, e.V) {
			t.Fatalf("a change of bytes came through: %s", tell(e))
		}
		w, d := valued(t, e)
		change(&v)
		if x, h := code.Back(d); h != api.OK || !alikeValues(w, e.V) || !alikeValues(x, e.V) {
			t.Fatalf("a change of a value came through: %s", tell(e))
		}
	}
}

// Beside an error there is nothing, not even memory.
func TestNothingBesideErrors(t *testing.T) {
	good := plainEntry(edit(put("k", list(txt("a"))), rem(0)))
	for i := range good {
		if e, f := code.Decode(good[:i]); f != api.ErrCode || e.V.L != nil || e.V.O != nil || e.Op != nil || !alike(e, api.Entry{}) {
			t.Errorf("Decode: %s, %d", tell(e), f)
		}
	}
	if v, f := code.Back(hx("04 00000002 00")); f != api.ErrCode || v.L != nil || !alikeValues(v, null()) {
		t.Errorf("Back: %s, %d", tell(v), f)
	}
	for _, e := range []api.Entry{edit(tins(0, strings.Repeat("x", 60000))), edit(add(1), tdel(0, 0))} {
		if b, f := code.Encode(e); f == api.OK || cap(b) > 0 {
			t.Errorf("Encode: %d, %d", cap(b), f)
		}
	}
	for _, v := range []api.Val{boolean(2), list(make([]api.Val, 30000)...)} {
		if b, f := code.Value(v); f == api.OK || cap(b) > 0 {
			t.Errorf("Value: %d, %d", cap(b), f)
		}
	}
}

// A small stack stands in for values that outgrow a great one.
func TestVeryDeepValues(t *testing.T) {
	defer debug.SetMaxStack(debug.SetMaxStack(1 << 20))
	v := deep(200000)
	for _, e := range []api.Entry{create(v), edit(put("k", v)), {Kind: api.Edit, V: v}, {Kind: api.Delete, V: v}, {Kind: 7, V: v}} {
		if b, f := code.Encode(e); code.Sound(e) || f != api.ErrArg || len(b) > 0 {
			t.Errorf("kind %d: %d", e.Kind, f)
		}
	}
	if b, f := code.Value(v); f != api.ErrArg || len(b) > 0 {
		t.Errorf("Value: %d", f)
	}
	if b, f := code.Value(deep(16)); f != api.OK || len(b) != 8*5+8*9+5 {
		t.Errorf("Value of 16 deep: %d bytes, %d", len(b), f)
	}
}

// The same is asked by many at the same time.
func TestAtTheSameTime(t *testing.T) {
	e := many()[5]
	want := plainEntry(e)
	all := make(chan bool)
	for range 8 {
		go func() {
			ok := true
			for range 50 {
				b, f := code.Encode(e)
				g, h := code.Decode(want)
				_, bad := code.Decode(want[:20])
				ok = ok && f == api.OK && bytes.Equal(b, want) && h == api.OK && alike(g, e) && bad == api.ErrCode
			}
			all <- ok
		}()
	}
	for range 8 {
		if !<-all {
			t.Error("something else")
		}
	}
}
