package code_test

import (
	"bytes"
	"encoding/binary"
	"testing"

	"conciliator/api"
	"conciliator/code"
	"conciliator/comp"
	"conciliator/val"
)

// The chapter's words, one by one, to be held against what is built.

func plainSound(e api.Entry) bool {
	sound := len(e.Op) <= 200
	for _, c := range e.Op {
		sound = sound && comp.Sound(c)
	}
	none := val.Same(e.V, api.Val{})
	switch e.Kind {
	case api.Create:
		return plainFits(e.V) && len(e.Op) == 0
	case api.Edit:
		return sound && none
	}
	return e.Kind == api.Delete && len(e.Op) == 0 && none
}

func plainFits(v api.Val) bool { return val.Sound(v) && val.Deep(v) <= 16 && val.Weight(v) <= 20000 }

func plainEight(n int64) []byte { return binary.BigEndian.AppendUint64(nil, uint64(n)) }

func plainFour(n int) []byte { return binary.BigEndian.AppendUint32(nil, uint32(n)) }

func plainText(s string) []byte { return append(plainFour(len(s)), s...) }

func plainValue(v api.Val) []byte {
	b := []byte{v.Kind}
	switch v.Kind {
	case api.Bool, api.Int:
		b = append(b, plainEight(v.N)...)
	case api.Text:
		b = append(b, plainText(v.S)...)
	case api.List:
		b = append(b, plainFour(len(v.L))...)
		for _, x := range v.L {
			b = append(b, plainValue(x)...)
		}
	case api.Obj:
		b = append(b, plainFour(len(v.O))...)
		for _, f := range v.O {
			b = append(append(b, plainText(f.Key)...), plainValue(f.V)...)
		}
	}
	return b
}

// plainSays is what says something of each kind of components.
var plainSays = map[uint8]string{1: "N", 2: "KV", 3: "K", 4: "IV", 5: "I", 6: "IV", 7: "IJ", 8: "IS", 9: "IN"}

// plainComp lays the fields that are named, whatever the kind is.
func plainComp(c api.Comp, says string) []byte {
	b := []byte{c.Kind, byte(len(c.Path))}
	for _, s := range c.Path {
		if s.List {
			b = append(append(b, 1), plainEight(int64(s.I))...)
		} else {
			b = append(append(b, 0), plainText(s.Key)...)
		}
	}
	for _, field := range says {
		switch field {
		case 'K':
			b = append(b, plainText(c.Key)...)
		case 'I':
			b = append(b, plainEight(int64(c.I))...)
		case 'J':
			b = append(b, plainEight(int64(c.J))...)
		case 'N':
			b = append(b, plainEight(c.N)...)
		case 'V':
			b = append(b, plainValue(c.V)...)
		case 'S':
			b = append(b, plainText(c.S)...)
		}
	}
	return b
}

func plainEntry(e api.Entry) []byte {
	b := append(append([]byte{e.Kind}, plainFour(int(e.Src))...), plainFour(int(e.Seq))...)
	switch e.Kind {
	case api.Create:
		b = append(b, plainValue(e.V)...)
	case api.Edit:
		b = append(b, plainFour(len(e.Op))...)
		for _, c := range e.Op {
			b = append(b, plainComp(c, plainSays[c.Kind])...)
		}
	}
	return b
}

// plainReader reads what is laid so, sound or not; bad is set where that goes on no further.
type plainReader struct {
	b   []byte
	bad bool
}

func (r *plainReader) cut(n int) []byte {
	if r.bad || n < 0 || n > len(r.b) {
		r.bad = true
		return make([]byte, 8)
	}
	b := r.b[:n:n]
	r.b = r.b[n:]
	return b
}

func (r *plainReader) one() uint8   { return r.cut(1)[0] }
func (r *plainReader) four() int    { return int(binary.BigEndian.Uint32(r.cut(4))) }
func (r *plainReader) eight() int64 { return int64(binary.BigEndian.Uint64(r.cut(8))) }

func (r *plainReader) text() string {
	n := r.four()
	b := r.cut(n)
	if r.bad {
		return ""
	}
	return string(b)
}

func (r *plainReader) value() api.Val {
	v := api.Val{Kind: r.one()}
	switch v.Kind {
	case api.Bool, api.Int:
		v.N = r.eight()
	case api.Text:
		v.S = r.text()
	case api.List:
		for n := r.four(); n > 0 && !r.bad; n-- {
			v.L = append(v.L, r.value())
		}
	case api.Obj:
		for n := r.four(); n > 0 && !r.bad; n-- {
			k := r.text()
			v.O = append(v.O, at(k, r.value()))
		}
	}
	return v
}

func (r *plainReader) comp() api.Comp {
	c := api.Comp{Kind: r.one()}
	for n := r.one(); n > 0 && !r.bad; n-- {
		switch r.one() {
		case 0:
			c.Path = append(c.Path, key(r.text()))
		case 1:
			c.Path = append(c.Path, nth(int(r.eight())))
		default:
			r.bad = true
		}
	}
	for _, field := range plainSays[c.Kind] {
		switch field {
		case 'K':
			c.Key = r.text()
		case 'I':
			c.I = int(r.eight())
		case 'J':
			c.J = int(r.eight())
		case 'N':
			c.N = r.eight()
		case 'V':
			c.V = r.value()
		case 'S':
			c.S = r.text()
		}
	}
	return c
}

func (r *plainReader) entry() api.Entry {
	e := api.Entry{Kind: r.one(), Src: uint32(r.four()), Seq: uint32(r.four())}
	switch e.Kind {
	case api.Create:
		e.V = r.value()
	case api.Edit:
		for n := r.four(); n > 0 && !r.bad; n-- {
			e.Op = append(e.Op, r.comp())
		}
	}
	return e
}

// hold holds Decode and Back of any bytes against the words; it tells whether one of them has an answer.
func hold(t *testing.T, b []byte) bool {
	t.Helper()
	was := bytes.Clone(b)
	none := api.ErrCode
	if len(b) > 60000 {
		none = api.ErrLimit
	}
	r := plainReader{b: b}
	want := r.entry()
	ok := !r.bad && len(r.b) == 0 && plainSound(want) && none == api.ErrCode
	e, f := code.Decode(b)
	if ok && (f != api.OK || !alike(e, want)) {
		t.Fatalf("Decode(%s) is %s, %d, not %s", brief(b), tell(e), f, tell(want))
	}
	if !ok && (f != none || !alike(e, api.Entry{})) {
		t.Fatalf("Decode(%s) is %s, %d, not error %d", brief(b), tell(e), f, none)
	}
	if again, g := code.Encode(e); ok && (g != api.OK || !bytes.Equal(again, was)) {
		t.Fatalf("Encode of Decode(%s) is %s, %d", brief(b), brief(again), g)
	}

	q := plainReader{b: b}
	wanted := q.value()
	good := !q.bad && len(q.b) == 0 && plainFits(wanted) && none == api.ErrCode
	v, g := code.Back(b)
	if good && (g != api.OK || !alikeValues(v, wanted)) {
		t.Fatalf("Back(%s) is %s, %d, not %s", brief(b), tell(v), g, tell(wanted))
	}
	if !good && (g != none || !alikeValues(v, api.Val{})) {
		t.Fatalf("Back(%s) is %s, %d, not error %d", brief(b), tell(v), g, none)
	}
	if again, h := code.Value(v); good && (h != api.OK || !bytes.Equal(again, was)) {
		t.Fatalf("Value of Back(%s) is %s, %d", brief(b), brief(again), h)
	}
	if !bytes.Equal(b, was) {
		t.Fatalf("changed: %s", brief(was))
	}
	return ok || good
}

// holdEntry holds Sound and Encode of any entry against the words, and Value of its V.
func holdEntry(t *testing.T, e api.Entry) api.Errno {
	t.Helper()
	was := twin(e)
	if code.Sound(e) != plainSound(e) {
		t.Fatalf("Sound(%s) is %v", tell(e), !plainSound(e))
	}
	b, f := code.Encode(e)
	why := plainWhy(plainSound(e), len(plainEntry(e)))
	if f != why || f != api.OK && len(b) > 0 || f == api.OK && !bytes.Equal(b, plainEntry(e)) {
		t.Fatalf("Encode(%s) is %s, %d, not %s, %d", tell(e), brief(b), f, brief(plainEntry(e)), why)
	}
	c, g := code.Value(e.V)
	whyV := plainWhy(plainFits(e.V), len(plainValue(e.V)))
	if g != whyV || g != api.OK && len(c) > 0 || g == api.OK && !bytes.Equal(c, plainValue(e.V)) {
		t.Fatalf("Value(%s) is %s, %d, not %s, %d", tell(e.V), brief(c), g, brief(plainValue(e.V)), whyV)
	}
	if !alike(e, was) {
		t.Fatalf("changed: %s", tell(was))
	}
	return why
}

func plainWhy(sound bool, n int) api.Errno {
	switch {
	case !sound:
		return api.ErrArg
	case n > 60000:
		return api.ErrLimit
	}
	return api.OK
}
