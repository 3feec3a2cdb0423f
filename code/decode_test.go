package code_test

import (
	"bytes"
	"encoding/binary"
	"math/rand"
	"runtime/debug"
	"slices"
	"strings"
	"testing"

	"conciliator/api"
	"conciliator/code"
)

// noEntry holds that bytes are those of no entry.
func noEntry(t *testing.T, all ...[]byte) {
	t.Helper()
	for _, b := range all {
		if e, f := code.Decode(b); f != api.ErrCode || !alike(e, api.Entry{}) {
			t.Errorf("Decode(%s) is %s, %d", brief(b), tell(e), f)
		}
	}
}

// noValue holds that bytes are those of no value.
func noValue(t *testing.T, all ...[]byte) {
	t.Helper()
	for _, b := range all {
		if v, f := code.Back(b); f != api.ErrCode || !alikeValues(v, api.Val{}) {
			t.Errorf("Back(%s) is %s, %d", brief(b), tell(v), f)
		}
	}
}

// refuses holds that bytes are those of no entry, and of no value.
func refuses(t *testing.T, all ...[]byte) {
	t.Helper()
	noEntry(t, all...)
	noValue(t, all...)
}

// refusesComps holds that bytes are those of no component, alone and between others.
func refusesComps(t *testing.T, all ...string) {
	t.Helper()
	for _, s := range all {
		const good = "03 00 00000001 'k'"
		refuses(t, hx("02 00000003 00000004 00000001"+s), hx("02 00000003 00000004 00000003"+good+s+good), hx("02 00000003 00000004 00000002"+good+s))
	}
}

// refusesValues holds that bytes are those of no value: alone, in others, in an entry, and in a component.
func refusesValues(t *testing.T, all ...string) {
	t.Helper()
	for _, s := range all {
		refuses(t, hx(s), hx("04 00000001"+s), hx("04 00000003 00"+s+"00"), hx("05 00000001 00000001 'k'"+s), hx("05 00000002 00000000 00 00000001 'k'"+s))
		refuses(t, hx("01 00000001 00000002"+s), hx("01 00000001 00000002 04 00000001"+s))
		refusesComps(t, "02 00 00000001 'k'"+s, "04 00 0000000000000000"+s, "06 01 00 00000000 0000000000000000"+s)
	}
}

// entrySamples are entries' bytes: those laid by hand that are not very long, and others.
func entrySamples() [][]byte {
	r := rand.New(rand.NewSource(1))
	var all [][]byte
	for _, row := range entryRows() {
		all = append(all, hx(row.b))
	}
	for range 120 {
		all = append(all, plainEntry(chanceEntry(r)))
	}
	return slices.DeleteFunc(all, func(b []byte) bool { return len(b) > 700 })
}

// valueSamples are values' bytes, likewise.
func valueSamples() [][]byte {
	r := rand.New(rand.NewSource(1))
	var all [][]byte
	for _, row := range valueRows() {
		all = append(all, hx(row.b))
	}
	for range 120 {
		all = append(all, plainValue(chance(r, 4)))
	}
	return slices.DeleteFunc(all, func(b []byte) bool { return len(b) > 700 })
}

func samples() [][]byte { return append(entrySamples(), valueSamples()...) }

func TestFronts(t *testing.T) {
	for _, b := range entrySamples() {
		said(t, hold(t, b))
		for i := range b {
			noEntry(t, b[:i], b[:i:i])
		}
	}
	for _, b := range valueSamples() {
		said(t, hold(t, b))
		for i := range b {
			noValue(t, b[:i], b[:i:i])
		}
	}
	refuses(t, nil, []byte{})
}

func TestBytesBehind(t *testing.T) {
	more := func(b []byte) [][]byte {
		all := [][]byte{behind(b, b...), behind(b, 0, 0, 0, 0), behind(b, 0, 0, 0, 0, 0, 0, 0, 0), behind([]byte{0}, b...)}
		for c := range 256 {
			all = append(all, behind(b, byte(c)))
		}
		return all
	}
	for _, b := range entrySamples() {
		noEntry(t, more(b)...)
	}
	for _, b := range valueSamples() {
		noValue(t, more(b)...)
	}
}

// What lies behind the bytes in their memory is not read, even where it goes on as they do.
func TestMemoryBehind(t *testing.T) {
	for _, b := range samples() {
		if !hold(t, behind(b, 0, 1, 2, 3)[:len(b)]) || !hold(t, behind(b, b...)[:len(b)]) {
			t.Errorf("%s", brief(b))
		}
	}
}

// Each byte is another one, one by one: each other one in short rows, some in long ones.
func TestAnotherByte(t *testing.T) {
	answers := 0
	for _, b := range samples() {
		for i, was := range b {
			others := []byte{was + 1, was - 1, was ^ 0x80, 0, 1, 2, 5, 0xff}
			for c := range 256 * (1 - min(len(b)/30, 1)) {
				others = append(others, byte(c))
			}
			for _, b[i] = range others {
				if hold(t, b) && b[i] != was {
					answers++
				}
			}
			b[i] = was
		}
	}
	if answers < 10000 {
		t.Errorf("only %d have an answer", answers)
	}
}

// Each four bytes are a count: of one more, of one less, and of very many.
func TestAnotherCount(t *testing.T) {
	for _, b := range samples() {
		for i := range max(0, min(len(b), 150)-3) {
			n := binary.BigEndian.Uint32(b[i:])
			for _, m := range []uint32{n + 1, n - 1, n + 256, n << 8, n >> 8, uint32(len(b) - i - 4), uint32(len(b)-i-4) + 1, 1<<31 - 1, 1 << 31, 1<<32 - 1, 60001} {
				c := bytes.Clone(b)
				binary.BigEndian.PutUint32(c[i:], m)
				hold(t, c)
			}
		}
	}
}

// Counts and lengths that are greater than what is there.
func TestTooGreatCounts(t *testing.T) {
	for _, n := range []string{"00000002", "00000003", "00000100", "00010000", "0000ea60", "0000ffff", "7fffffff", "80000000", "80000001", "fffffffe", "ffffffff"} {
		refuses(t, hx("02 00000003 00000004"+n+"03 00 00000000"), hx("02 00000003 00000004"+n))
		refusesValues(t, "03"+n+"'a'", "03"+n, "04"+n+"00", "05"+n+"00000000 00", "05 00000001"+n+"'a'", "05 00000001"+n+"00")
		refusesComps(t, "03 00"+n+"'a'", "02 00"+n+"'a'", "08 00 0000000000000000"+n+"'a'", "03 01 00"+n+"'a'", "01 01 00"+n+"'a'")
	}
	for _, n := range []string{"01", "02", "0f", "10", "7f", "80", "ff"} {
		refuses(t, hx("02 00000003 00000004 00000001 03"+n+"00000001 'k'"))
	}
	refuses(t, hx("02 00000003 00000004 00000001 05 02 01 0000000000000001 0000000000000001"))
	refuses(t, hx("02 00000003 00000004 00000001 05 00 01 0000000000000001 0000000000000001"))
}

// Rows of many, of which more are told than are there, are told in time.
func TestCountsOfMuch(t *testing.T) {
	zeros := strings.Repeat("00", 59000)
	refuses(t, hx("04 ffffffff"+zeros), hx("05 ffffffff"+zeros), hx("03 ffffffff"+zeros), hx("02 00000000 00000000 ffffffff"+zeros), hx("01 00000000 00000000 04 ffffffff"+zeros))
	refuses(t, hx("04 0000e678"+zeros)) // so many are there: they are too heavy
	refuses(t, bytes.Repeat(hx("04 ffffffff"), 12000), bytes.Repeat(hx("05 ffffffff 00000000"), 6000))
	refuses(t, append(hx("02 00000000 00000000 ffffffff"), bytes.Repeat(hx("03 00 00000000"), 9000)...))
	refuses(t, append(hx("02 00000000 00000000 00002328"), bytes.Repeat(hx("03 00 00000000"), 9000)...))
}

func TestKindsThatAreNone(t *testing.T) {
	digits := func(k int) string { return "" + string("0123456789abcdef"[k/16]) + string("0123456789abcdef"[k%16]) }
	rests := []string{"", "00", "00 00000000", "00 0000000000000000", "0000000000000000", "00000000", "00000001 00", "00 00000001 'k' 00", "00 0000000000000000 0000000000000000"}
	for k := range 256 {
		for _, rest := range rests {
			if k > 5 {
				refusesValues(t, digits(k)+rest)
			}
			if k < 1 || k > 9 {
				refusesComps(t, digits(k)+rest)
			}
			if k < 1 || k > 3 {
				noEntry(t, hx(digits(k)+"00000000 00000000"+rest))
			}
		}
		if k > 1 {
			refusesComps(t, "05 01"+digits(k)+"0000000000000001 0000000000000001", "05 01"+digits(k)+"00000001 'k' 0000000000000001")
		}
	}
}

func TestKeys(t *testing.T) {
	refusesValues(t,
		"05 00000002 00000001 'a' 00 00000001 'a' 00", "05 00000002 00000000 00 00000000 00", "05 00000002 00000001 'b' 00 00000001 'a' 00",
		"05 00000003 00000001 'a' 00 00000001 'b' 00 00000001 'b' 00", "05 00000003 00000001 'a' 00 00000001 'c' 00 00000001 'b' 00",
		"05 00000002 00000001 'a' 00 00000000 00", "05 00000002 00000002 'aa' 00 00000001 'a' 00", "05 00000002 00000001 'b' 00 00000002 'aa' 00",
		"05 00000002 00000003 efbfbf 00 00000001 'z' 00", "05 00000002 00000004 f0908080 00 00000003 efbfbf 00")
	for _, s := range []string{"05 00000002 00000001 'a' 00 00000001 'b' 00", "05 00000002 00000001 'a' 00 00000002 'aa' 00", "05 00000002 00000002 'aa' 00 00000001 'b' 00", "05 00000002 00000003 efbfbf 00 00000004 f0908080 00"} {
		said(t, hold(t, hx(s)))
	}
}

// Each kind's bytes with the fields of another one: they are refused, but where the same fields speak.
func TestFieldsOfOtherKinds(t *testing.T) {
	for _, c := range ordinary() {
		c.Key, c.I, c.J, c.N, c.V, c.S = "k", 1, 2, 3, txt("v"), "s"
		for kind := uint8(1); kind <= 9; kind++ {
			for _, says := range []string{plainSays[kind], plainSays[c.Kind] + plainSays[kind], plainSays[c.Kind] + "V", plainSays[c.Kind] + "N", plainSays[c.Kind] + "J", plainSays[c.Kind] + "S", "K" + plainSays[c.Kind], "I" + plainSays[c.Kind], ""} {
				b := plainComp(c, says)
				same := len(says) == len(plainSays[c.Kind]) && len(b) == len(plainComp(c, plainSays[c.Kind]))
				for _, all := range [][]byte{append(hx("02 00000003 00000004 00000001"), b...), append(append(hx("02 00000003 00000004 00000002"), b...), hx("03 00 00000000")...)} {
					if hold(t, all) != same {
						t.Errorf("kind %d with %s: %v", c.Kind, says, !same)
					}
				}
			}
		}
	}
	refusesComps(t, "03 00 00000001 'k' 03 00000001 'v'", "01 00 0000000000000001 0000000000000001", "02 00 00000001 'k'", "04 00 0000000000000001", "07 00 0000000000000001", "08 00 0000000000000001", "09 00 0000000000000001", "05 00")
}

// What is laid as it should be, but isn't sound.
func TestBytesOfOdd(t *testing.T) {
	for _, v := range append(oddValues(), deep(17), deep(18)) {
		b := plainValue(v)
		w, e := code.Back(b)
		same := bytes.Equal(plainValue(api.Val{Kind: v.Kind}), b) && v.Kind < 6 // what says nothing is not laid
		if (e == api.OK) != (same || plainFits(plainRead(b))) {
			t.Errorf("Back(%s) is %s, %d", brief(b), tell(w), e)
		}
		hold(t, b)
		hold(t, plainEntry(create(list(v))))
	}
	for _, v := range []api.Val{boolean(2), boolean(-1), boolean(256), txt("\xff"), txt("a\xed\xa0\x80"), txt("\xe2\x82"), object(at("\x80", null())), object(at("b", null()), at("a", null()))} {
		noValue(t, plainValue(v), plainValue(list(v)))
		noEntry(t, plainEntry(create(v)), plainEntry(create(list(v))), plainEntry(edit(put("k", v))))
	}
	for _, c := range oddComps() {
		hold(t, plainEntry(edit(c)))
		hold(t, plainEntry(edit(add(1), c, add(1))))
	}
	for _, c := range ops(rem(-1), move(-1, 0), move(0, -1), tins(-1, "x"), tins(0, ""), tins(0, "\xff"), tdel(0, 0), tdel(0, -1), tdel(-1, 1), del("\xff"), put("\xff", null()), path(add(1), nth(-1)), path(add(1), key("\xff")), path(add(1), make([]api.Step, 16)...), path(add(1), make([]api.Step, 255)...), path(put("", deep(15)), nth(0))) {
		refuses(t, plainEntry(edit(c)), plainEntry(edit(add(1), c, add(1))))
	}
	refuses(t, plainEntry(edit(append(make200(), del(""))...)))
	said(t, hold(t, plainEntry(edit(make200()...))))
}

func plainRead(b []byte) api.Val {
	r := plainReader{b: b}
	return r.value()
}

func TestDepthAndWeight(t *testing.T) {
	for n := range 20 {
		for _, v := range []api.Val{deep(n), list(number(1), deep(max(n-1, 0)), number(2))} {
			if hold(t, plainValue(v)) != (n <= 16) || hold(t, plainEntry(create(v))) != (n <= 16) {
				t.Errorf("%d deep", n)
			}
			if hold(t, plainEntry(edit(put("k", v)))) != (max(n, 1) <= 15 || n == 0) {
				t.Errorf("%d deep in a Put", n)
			}
		}
	}
	// one beside the other: depth that was left does not count
	said(t, hold(t, plainValue(list(deep(15), deep(15), object(at("a", deep(14)), at("b", deep(14)))))))
	for _, v := range weighing(20000) {
		if !hold(t, plainValue(v)) || !hold(t, plainEntry(create(v))) || !hold(t, plainEntry(edit(set(0, v)))) {
			t.Error("a weight of 20000")
		}
	}
	for _, v := range weighing(20001) {
		refuses(t, plainValue(v), plainEntry(create(v)), plainEntry(edit(set(0, v))))
	}
}

// A small stack stands in for bytes that outgrow a great one.
func TestVeryDeepBytes(t *testing.T) {
	defer debug.SetMaxStack(debug.SetMaxStack(1 << 20))
	for _, one := range []string{"04 00000001", "05 00000001 00000000", "04 00000001 05 00000001 00000001 'k'", "04 ffffffff"} {
		b := bytes.Repeat(hx(one), 59000/len(hx(one)))
		refuses(t, b, append(bytes.Clone(b), 0), append(hx("01 00000000 00000000"), b...), append(hx("01 00000000 00000000"), append(b, 0)...))
		refuses(t, append(hx("02 00000000 00000000 00000001 02 00 00000000"), b...), append(hx("02 00000000 00000000 00000001 04 00 0000000000000000"), append(b, 0)...))
	}
}
