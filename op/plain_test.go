package op_test

import (
	"math"
	"math/rand"
	"reflect"
	"testing"

	"conciliator/api"
	"conciliator/comp"
	"conciliator/op"
	"conciliator/text"
	"conciliator/turn"
)

// The chapter's words, one by one, to be held against what is built.

func plainDo(v api.Val, l []api.Comp) (api.Val, api.Errno) {
	if len(l) > 200 {
		return api.Val{}, api.ErrLimit
	}
	for _, c := range l {
		if e := comp.Check(v, c); e != api.OK {
			return api.Val{}, e
		}
		v, _ = comp.Do(v, c)
	}
	return v, api.OK
}

func plainCross(a, b []api.Comp) ([]api.Comp, []api.Comp) {
	switch {
	case len(a) == 0 || len(b) == 0:
		return a, b
	case len(a) == 1 && len(b) == 1:
		return turn.Turn(a[0], b[0], true), turn.Turn(b[0], a[0], false)
	case len(a) > 1:
		c, d := plainCross(a[:1], b)
		e, f := plainCross(a[1:], d)
		return behind(c, e), f
	}
	c, d := plainCross(a, b[:1])
	e, f := plainCross(c, b[1:])
	return e, behind(d, f)
}

func plainTrim(all []api.Comp) []api.Comp {
	var l []api.Comp
	for _, c := range all {
		if c.Kind == api.Add && c.N == 0 || c.Kind == api.Move && c.I == c.J {
			continue
		}
		n := len(l)
		if n == 0 || l[n-1].Kind != c.Kind || !reflect.DeepEqual(way(l[n-1].Path...), way(c.Path...)) {
			l = append(l, c)
			continue
		}
		last := l[n-1]
		switch {
		case c.Kind == api.Add && last.N+c.N == 0:
			l = l[:n-1]
		case c.Kind == api.Add:
			l[n-1].N += c.N
		case c.Kind == api.Put && last.Key == c.Key:
			l[n-1] = c
		case c.Kind == api.Tins && c.I == last.I+text.Len(last.S):
			l[n-1].S += c.S
		default:
			l = append(l, c)
		}
	}
	return l
}

// edges are numbers at the ends of what is spoken of, and of what there is.
var edges = []int{
	0, 1, 2, 3, -1, -2, -3, 1<<31 - 1, 1 << 31, -1 << 31, 1<<32 + 1, 1<<62 + 1, -1 << 62,
	math.MaxInt - 1, math.MaxInt, math.MinInt, math.MinInt + 1,
}

// No numbers, kinds, keys and paths make a call panic: most of these are beyond what the chapters speak of.
func TestAnything(t *testing.T) {
	r := rand.New(rand.NewSource(5))
	for range 12000 {
		a, b, v := wild(r, 7), wild(r, 7), chance(r, 3)
		holdsPlain(t, v, a, b)
	}
}

// What may be done.
func TestPlain(t *testing.T) {
	r := rand.New(rand.NewSource(6))
	for range 6000 {
		v := chance(r, 3)
		holdsPlain(t, v, chanceOp(r, v, 6), chanceOp(r, v, 6))
	}
}

// Bytes of characters, whole and in pieces, each laid at the end of those ahead of it, or near it.
func TestPlainTins(t *testing.T) {
	r := rand.New(rand.NewSource(7))
	const some = "a\u00e9\u20ac\U0001f600\xff\xf0\x9f\x98\xe2\x82\xc3\xa9\x80\x80"
	for range 20000 {
		var l []api.Comp
		s := ""
		for range 1 + r.Intn(7) {
			from := r.Intn(len(some))
			more := some[from : from+r.Intn(min(4, len(some)-from)+1)]
			place := text.Len(s)
			if r.Intn(8) == 0 {
				place += r.Intn(3) - 1
			}
			l, s = append(l, tins(place, more)), s+more
		}
		if got, want := op.Trim(l), plainTrim(l); !alike(got, want) {
			t.Fatalf("Trim(%+v): %+v, not %+v", l, got, want)
		}
	}
}

func holdsPlain(t *testing.T, v api.Val, a, b []api.Comp) {
	t.Helper()
	c, d := op.Cross(a, b)
	if p, q := plainCross(a, b); !alike(c, p) || !alike(d, q) {
		t.Fatalf("Cross(%+v, %+v): %+v, %+v, not %+v, %+v", a, b, c, d, p, q)
	}
	if got, want := op.Trim(a), plainTrim(a); !alike(got, want) {
		t.Fatalf("Trim(%+v): %+v, not %+v", a, got, want)
	}
	if got, want := op.Join(a, b), plainTrim(behind(a, b)); !alike(got, want) {
		t.Fatalf("Join(%+v, %+v): %+v, not %+v", a, b, got, want)
	}
	w, e := op.Do(v, a)
	want, f := plainDo(v, a)
	if e != f || op.Check(v, a) != f || !alikeValues(w, want) {
		t.Fatalf("Do(%+v, %+v): %+v, %d, not %+v, %d; Check %d", v, a, w, e, want, f, op.Check(v, a))
	}
}
