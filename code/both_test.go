package code_test

import (
	"bytes"
	"encoding/binary"
	"math/rand"
	"slices"
	"testing"

	"conciliator/api"
	"conciliator/code"
)

// What is laid is read as the same thing, and what is read is laid as the same bytes.
func TestThereAndBack(t *testing.T) {
	r := rand.New(rand.NewSource(2))
	for range 20000 {
		e := chanceEntry(r)
		if holdEntry(t, e) == api.ErrLimit {
			continue
		}
		b, _ := code.Encode(e)
		if f, g := code.Decode(b); g != api.OK || !alike(f, e) {
			t.Fatalf("Decode of Encode(%s) is %s, %d", tell(e), tell(f), g)
		}
		hold(t, b)
		c, _ := code.Value(e.V)
		if v, g := code.Back(c); g != api.OK || !alikeValues(v, e.V) {
			t.Fatalf("Back of Value(%s) is %s, %d", tell(e.V), tell(v), g)
		}
	}
}

// No two have the same bytes.
func TestOneWay(t *testing.T) {
	had := map[string]api.Entry{}
	r := rand.New(rand.NewSource(3))
	for range 20000 {
		e := chanceEntry(r)
		e.Src, e.Seq = e.Src%2, e.Seq%2
		b, f := code.Encode(e)
		if f != api.OK {
			continue
		}
		if was, there := had[string(b)]; there && !alike(was, e) {
			t.Fatalf("%s and %s", tell(was), tell(e))
		}
		had[string(b)] = twin(e)
	}
	if len(had) < 5000 {
		t.Errorf("only %d", len(had))
	}
}

// Bytes in which a few are others, are missing, or stand between.
func TestChangedBytes(t *testing.T) {
	r := rand.New(rand.NewSource(4))
	answers := 0
	for range 200000 {
		b := plainEntry(chanceEntry(r))
		if r.Intn(3) == 0 {
			b = plainValue(chance(r, 3))
		}
		for range 1 + r.Intn(3) {
			i := r.Intn(len(b) + 1)
			c := byte(r.Intn(256) >> r.Intn(8))
			switch {
			case r.Intn(4) == 0:
				b = slices.Insert(b, i, c)
			case i == len(b):
			case r.Intn(3) > 0:
				b[i] = c
			default:
				b = slices.Delete(b, i, i+1)
			}
			if len(b) == 0 {
				break
			}
		}
		if hold(t, b) {
			answers++
		}
	}
	if answers < 10000 || answers > 190000 {
		t.Errorf("%d have an answer", answers)
	}
}

// Bytes that are made of what stands in such bytes, in any order.
func TestAnyParts(t *testing.T) {
	r := rand.New(rand.NewSource(5))
	answers := 0
	for range 200000 {
		b := []byte{byte(r.Intn(7))}
		if r.Intn(2) == 0 {
			b = append([]byte{byte(1 + r.Intn(2))}, 0, 0, 0, 1, 0, 0, 0, 2)
		}
		for range r.Intn(8) {
			switch r.Intn(4) {
			case 0:
				b = append(b, byte(r.Intn(10)))
			case 1:
				b = binary.BigEndian.AppendUint32(b, uint32(r.Intn(3)))
			case 2:
				b = binary.BigEndian.AppendUint64(b, uint64(edges[r.Intn(len(edges))]))
			case 3:
				b = append(b, texts[r.Intn(4)]...)
			}
		}
		if hold(t, b) {
			answers++
		}
	}
	if answers < 5000 {
		t.Errorf("only %d have an answer", answers)
	}
}

// All short rows of bytes that say something.
func TestAllShortBytes(t *testing.T) {
	some := []byte{0, 1, 2, 3, 4, 5, 'a', 0xff}
	var all func(b []byte, more int)
	all = func(b []byte, more int) {
		hold(t, b)
		for _, c := range some[:len(some)*min(more, 1)] {
			all(append(b[:len(b):len(b)], c), more-1)
		}
	}
	all(nil, 6)
	for _, kind := range []byte{3, 4, 5} {
		all([]byte{kind, 0, 0, 0}, 5)
	}
	all([]byte{2, 0, 0, 0, 0, 0, 0, 0, 0, 0, 0, 0}, 4)
}

// spoil makes some of a value such as is none.
func spoil(r *rand.Rand, v *api.Val) {
	for i := range v.L {
		spoil(r, &v.L[i])
	}
	for i := range v.O {
		spoil(r, &v.O[i].V)
	}
	switch r.Intn(24) {
	case 0:
		v.Kind = uint8(r.Intn(256))
	case 1:
		v.N++
	case 2:
		v.S += "\xff"
	case 3:
		if n := len(v.O); n > 1 {
			v.O[0], v.O[n-1] = v.O[n-1], v.O[0]
		}
	case 4:
		v.L = append(v.L, null())
	}
}

// wild is an entry of anything.
func wild(r *rand.Rand) api.Entry {
	e := api.Entry{Kind: uint8(r.Intn(5)), Src: r.Uint32(), Seq: r.Uint32()}
	if r.Intn(2) == 0 {
		e.V = chance(r, 3)
		spoil(r, &e.V)
	}
	for range r.Intn(4) * r.Intn(2) {
		c := chanceComp(r)
		if r.Intn(3) == 0 {
			spoil(r, &c.V)
		}
		switch r.Intn(12) {
		case 0:
			c.Kind = uint8(r.Intn(256))
		case 1:
			c.I = int(edges[r.Intn(len(edges))])
		case 2:
			c.J = int(edges[r.Intn(len(edges))])
		case 3:
			c.N = edges[r.Intn(len(edges))]
		case 4:
			c.Path = append(c.Path, make([]api.Step, r.Intn(400))...)
		case 5:
			c.Path = append(c.Path, api.Step{List: r.Intn(2) == 0, I: r.Intn(3) - 1, Key: []string{"", "a", "\xff"}[r.Intn(3)]})
		}
		e.Op = append(e.Op, c)
	}
	return e
}

// No entry makes a call panic, and each is sound, and has bytes, as the words say.
func TestAnyEntries(t *testing.T) {
	r := rand.New(rand.NewSource(6))
	count := map[api.Errno]int{}
	for range 60000 {
		count[holdEntry(t, wild(r))]++
	}
	if count[api.OK] < 5000 || count[api.ErrArg] < 5000 {
		t.Errorf("%v", count)
	}
}

// No bytes make a call panic.
func TestAnyBytes(t *testing.T) {
	r := rand.New(rand.NewSource(7))
	for range 20000 {
		b := make([]byte, r.Intn(100))
		r.Read(b)
		hold(t, b)
		for i := range b {
			b[i] %= 10
		}
		hold(t, b)
		hold(t, bytes.Repeat(b, 3))
	}
}

func FuzzDecode(f *testing.F) {
	for _, row := range append(entryRows()[:40], entryRow{create(deep(3)), ""}) {
		f.Add(plainEntry(row.e))
	}
	for _, row := range valueRows() {
		f.Add(plainValue(row.v))
	}
	f.Fuzz(func(t *testing.T, b []byte) { hold(t, b) })
}
