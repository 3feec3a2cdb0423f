package code_test

import (
	"bytes"
	"strings"
	"testing"

	"conciliator/api"
	"conciliator/code"
)

func TestErrArg(t *testing.T) {
	entries := []api.Entry{{}, {Kind: 4}, {Kind: 255}, create(deep(17)), edit(append(make200(), add(1))...)}
	for _, v := range append(oddValues(), append(weighing(20001), deep(17), deep(30))...) {
		if b, e := code.Value(v); e != api.ErrArg || len(b) > 0 {
			t.Errorf("Value(%s) is %s, %d", tell(v), brief(b), e)
		}
		e := ends()
		e.V = v
		entries = append(entries, create(v), create(list(v)), e)
	}
	for _, c := range oddComps() {
		e := ends()
		e.Op = ops(c)
		entries = append(entries, edit(c), edit(add(1), c, add(1)), e)
	}
	for _, e := range entries {
		said(t, !plainSound(e))
		if b, f := code.Encode(e); f != api.ErrArg || len(b) > 0 {
			t.Errorf("Encode(%s) is %s, %d", tell(e), brief(b), f)
		}
	}
}

// What is not sound is told first, of what is too long, too.
func TestErrArgOfTooMuch(t *testing.T) {
	long := strings.Repeat("x", 100000)
	wrong := ops(path(add(1), key(long), nth(-1)), tdel(0, 0))
	for _, e := range []api.Entry{edit(tins(0, long), wrong[0]), edit(wrong[1], tins(0, long)), create(txt(long)), create(list(make([]api.Val, 70000)...)), {Kind: 9, Op: ops(tins(0, long))}} {
		if b, f := code.Encode(e); f != api.ErrArg || len(b) > 0 {
			t.Errorf("%d, %d bytes", f, len(b))
		}
	}
	for _, v := range []api.Val{txt(long), list(make([]api.Val, 70000)...), list(number(1), txt(long)), object(at(long, null()))} {
		if b, f := code.Value(v); f != api.ErrArg || len(b) > 0 {
			t.Errorf("%d, %d bytes", f, len(b))
		}
	}
}

// longValues make values whose bytes are as many as n is great, and others together; each ends in something else.
func longValues() []func(n int) api.Val {
	const most = 6000
	numbers := make([]api.Val, most)
	for i := range numbers {
		numbers[i] = number(int64(i))
	}
	fill := func(n int) api.Val { return txt(strings.Repeat("x", n)) }
	return []func(n int) api.Val{
		func(n int) api.Val { return list(append([]api.Val{fill(n)}, numbers...)...) },
		func(n int) api.Val { return list(append(numbers[:most:most], fill(n))...) },
		func(n int) api.Val { return list(list(numbers...), object(at("k", fill(n)), at("l", null()))) },
		func(n int) api.Val { return object(at("", list(numbers...)), at(strings.Repeat("k", n), object())) },
		func(n int) api.Val { return list(list(numbers...), list(make([]api.Val, n)...), boolean(1)) },
	}
}

func longOps() []func(n int) []api.Comp {
	fill := func(n int) string { return strings.Repeat("x", n) }
	all := []func(n int) []api.Comp{
		func(n int) []api.Comp { return ops(path(add(1), key(fill(n)))) },
		func(n int) []api.Comp { return ops(path(rem(1), key(fill(n)), nth(3))) },
		func(n int) []api.Comp { return ops(del(fill(n))) },
		func(n int) []api.Comp { return ops(tins(0, fill(n))) },
		func(n int) []api.Comp { return ops(tins(0, fill(n)), move(1, 2)) },
		func(n int) []api.Comp { return ops(put(fill(n), null()), tdel(1, 2), tins(1, "\u20ac")) },
		func(n int) []api.Comp { return append(make200()[:199], del(fill(n))) },
	}
	for _, v := range longValues() {
		all = append(all, func(n int) []api.Comp { return ops(add(1), ins(2, v(n))) }, func(n int) []api.Comp { return ops(set(2, v(n)), del("k")) })
	}
	return all
}

// fills is for which n something has so many bytes.
func fills(t *testing.T, size func(n int) int, want int) int {
	t.Helper()
	n := want - size(1) + 1
	said(t, n > 1 && size(n) == want)
	return n
}

func TestValueErrLimit(t *testing.T) {
	for i, make := range longValues() {
		n := fills(t, func(n int) int { return len(plainValue(make(n))) }, 60000)
		if b, e := code.Value(make(n - 1)); e != api.OK || len(b) != 59999 {
			t.Errorf("%d: of 59999 bytes: %d", i, e)
		}
		if b, e := code.Value(make(n)); e != api.OK || len(b) != 60000 || !bytes.Equal(b, plainValue(make(n))) {
			t.Errorf("%d: of 60000 bytes: %d", i, e)
		}
		for _, more := range []int{1, 2, 8, 100, 1000} {
			if b, e := code.Value(make(n + more)); e != api.ErrLimit || len(b) > 0 {
				t.Errorf("%d: of %d bytes: %d, %d", i, 60000+more, len(b), e)
			}
		}
		if !hold(t, plainValue(make(n))) || hold(t, plainValue(make(n+1))) {
			t.Errorf("%d: Back at 60000 bytes", i)
		}
	}
}

func TestEncodeErrLimit(t *testing.T) {
	var all []func(n int) api.Entry
	for _, v := range longValues() {
		all = append(all, func(n int) api.Entry { return create(v(n)) })
	}
	for _, op := range longOps() {
		all = append(all, func(n int) api.Entry { return edit(op(n)...) })
	}
	for i, make := range all {
		n := fills(t, func(n int) int { return len(plainEntry(make(n))) }, 60000)
		if b, e := code.Encode(make(n)); e != api.OK || len(b) != 60000 || !bytes.Equal(b, plainEntry(make(n))) {
			t.Errorf("%d: of 60000 bytes: %d", i, e)
		}
		if b, e := code.Encode(make(n - 1)); e != api.OK || len(b) != 59999 {
			t.Errorf("%d: of 59999 bytes: %d", i, e)
		}
		for _, more := range []int{1, 2, 8, 100, 1000} {
			if b, e := code.Encode(make(n + more)); e != api.ErrLimit || len(b) > 0 {
				t.Errorf("%d: of %d bytes: %d, %d", i, 60000+more, len(b), e)
			}
		}
		if !hold(t, plainEntry(make(n))) || hold(t, plainEntry(make(n+1))) {
			t.Errorf("%d: Decode at 60000 bytes", i)
		}
	}
}

// What is far too long is told likewise, and is not kept meanwhile.
func TestErrLimitOfMuch(t *testing.T) {
	huge := strings.Repeat("x", 1<<22)
	heavy := make([]api.Comp, 200)
	numbers := make([]api.Val, 19999)
	for i := range numbers {
		numbers[i] = number(1)
	}
	for i := range heavy {
		heavy[i] = ins(0, list(numbers...))
	}
	for i, e := range []api.Entry{
		edit(path(add(1), key(huge))), edit(tins(0, huge)), edit(put(huge, null()), add(1)), edit(del("a"), del(huge), del("b")), edit(heavy...), create(list(numbers...)),
	} {
		said(t, plainSound(e))
		if b, f := code.Encode(e); f != api.ErrLimit || len(b) > 0 {
			t.Errorf("%d: %d, %d bytes", i, f, len(b))
		}
	}
	if b, f := code.Value(list(numbers...)); f != api.ErrLimit || len(b) > 0 {
		t.Errorf("Value: %d, %d bytes", f, len(b))
	}
}

// Of more than 60000 bytes it is told that they are too many, whatever they are.
func TestTooManyBytes(t *testing.T) {
	one := plainEntry(ends())
	for _, n := range []int{60001, 60002, 1 << 17, 1 << 22} {
		for _, b := range [][]byte{make([]byte, n), bytes.Repeat([]byte{0xff}, n), bytes.Repeat([]byte{4, 0, 0, 0, 1}, n), append(bytes.Clone(one), make([]byte, n)...)} {
			if e, f := code.Decode(b); f != api.ErrLimit || !alike(e, api.Entry{}) {
				t.Errorf("Decode of %d bytes: %d", len(b), f)
			}
			if v, f := code.Back(b); f != api.ErrLimit || !alikeValues(v, api.Val{}) {
				t.Errorf("Back of %d bytes: %d", len(b), f)
			}
		}
	}
	for _, n := range []int{59999, 60000} {
		for _, b := range [][]byte{make([]byte, n), bytes.Repeat([]byte{0xff}, n), append(bytes.Clone(one), make([]byte, n-9)...)} {
			if _, f := code.Decode(b); f != api.ErrCode {
				t.Errorf("Decode of %d bytes: %d", len(b), f)
			}
			if _, f := code.Back(b); f != api.ErrCode {
				t.Errorf("Back of %d bytes: %d", len(b), f)
			}
		}
	}
}
