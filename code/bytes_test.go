package code_test

import (
	"bytes"
	"math"
	"strings"
	"testing"

	"conciliator/api"
	"conciliator/code"
)

type valueRow struct {
	v api.Val
	b string // as hx takes it
}

// valueRows are values of each kind, and their bytes, laid by hand.
func valueRows() []valueRow {
	const none, one = "0000000000000000", "0000000000000001"
	long := func(c string, n int) string { return "'" + strings.Repeat(c, n) + "'" }
	return []valueRow{
		{null(), "00"},
		{boolean(0), "01" + none}, {boolean(1), "01" + one},
		{number(0), "02" + none}, {number(1), "02" + one}, {number(255), "02 00000000000000ff"}, {number(256), "02 0000000000000100"},
		{number(0x0102030405060708), "02 0102030405060708"}, {number(1 << 32), "02 0000000100000000"},
		{number(-1), "02 ffffffffffffffff"}, {number(-2), "02 fffffffffffffffe"}, {number(-256), "02 ffffffffffffff00"},
		{number(math.MaxInt64), "02 7fffffffffffffff"}, {number(math.MinInt64), "02 8000000000000000"}, {number(math.MinInt64 + 1), "02 8000000000000001"},
		{txt(""), "03 00000000"}, {txt("a"), "03 00000001 'a'"}, {txt("\x00"), "03 00000001 00"}, {txt("ab c"), "03 00000004 'ab c'"},
		{txt("\u00e9"), "03 00000002 c3a9"}, {txt("\u20ac"), "03 00000003 e282ac"}, {txt("\U0001f600"), "03 00000004 f09f9880"},
		{txt("a\u00e9\u20ac\U0001f600\x7f"), "03 0000000b 61 c3a9 e282ac f09f9880 7f"}, {txt("\ufffd"), "03 00000003 efbfbd"},
		{txt(strings.Repeat("x", 255)), "03 000000ff" + long("x", 255)}, {txt(strings.Repeat("x", 256)), "03 00000100" + long("x", 256)},
		{txt(strings.Repeat("x", 19999)), "03 00004e1f" + long("x", 19999)},
		{list(), "04 00000000"}, {list(null()), "04 00000001 00"}, {list(list()), "04 00000001 04 00000000"},
		{list(number(-1), txt("a"), boolean(1), null()), "04 00000004 02 ffffffffffffffff 03 00000001 'a' 01" + one + "00"},
		{list(make([]api.Val, 258)...), "04 00000102" + strings.Repeat("00", 258)},
		{list(list(txt("a"), null()), list(), txt("b")), "04 00000003 04 00000002 03 00000001 'a' 00 04 00000000 03 00000001 'b'"},
		{object(), "05 00000000"}, {object(at("", null())), "05 00000001 00000000 00"},
		{object(at("a", number(1))), "05 00000001 00000001 'a' 02" + one},
		{object(at("", txt("")), at("B", list()), at("a", object()), at("aa", null()), at("\u20ac", txt("\u00e9"))),
			"05 00000005 00000000 03 00000000 00000001 'B' 04 00000000 00000001 'a' 05 00000000 00000002 'aa' 00 00000003 e282ac 03 00000002 c3a9"},
		{object(at("k", list(object(at("l", boolean(0)))))), "05 00000001 00000001 'k' 04 00000001 05 00000001 00000001 'l' 01" + none},
		{object(at(strings.Repeat("k", 300), null())), "05 00000001 0000012c" + long("k", 300) + "00"},
	}
}

type compRow struct {
	c api.Comp
	b string
}

// compRows are components of each kind, and their bytes, laid by hand.
func compRows() []compRow {
	const none, one, two = "0000000000000000", "0000000000000001", "0000000000000002"
	rows := []compRow{
		{add(0), "01 00" + none}, {add(2), "01 00" + two}, {add(-1), "01 00 ffffffffffffffff"},
		{add(math.MaxInt64), "01 00 7fffffffffffffff"}, {add(math.MinInt64), "01 00 8000000000000000"},
		{put("k", txt("x")), "02 00 00000001 'k' 03 00000001 'x'"}, {put("", null()), "02 00 00000000 00"},
		{put("\u20ac", list(number(1))), "02 00 00000003 e282ac 04 00000001 02" + one},
		{del("k"), "03 00 00000001 'k'"}, {del(""), "03 00 00000000"}, {del("a\u00e9"), "03 00 00000003 61c3a9"},
		{ins(0, null()), "04 00" + none + "00"}, {ins(258, txt("x")), "04 00 0000000000000102 03 00000001 'x'"}, {ins(math.MaxInt, object()), "04 00 7fffffffffffffff 05 00000000"},
		{rem(0), "05 00" + none}, {rem(2), "05 00" + two}, {rem(1 << 32), "05 00 0000000100000000"}, {rem(math.MaxInt), "05 00 7fffffffffffffff"},
		{set(1, boolean(1)), "06 00" + one + "01" + one}, {set(0, null()), "06 00" + none + "00"},
		{move(1, 2), "07 00" + one + two}, {move(2, 1), "07 00" + two + one}, {move(0, math.MaxInt), "07 00" + none + "7fffffffffffffff"},
		{tins(1, "xy"), "08 00" + one + "00000002 'xy'"}, {tins(0, "\U0001f600"), "08 00" + none + "00000004 f09f9880"},
		{tdel(1, 2), "09 00" + one + two}, {tdel(2, 1), "09 00" + two + one}, {tdel(math.MaxInt, math.MaxInt64), "09 00 7fffffffffffffff 7fffffffffffffff"},
	}
	ways := []struct {
		p []api.Step
		b string
	}{
		{way(nth(0)), "01 01" + none}, {way(key("")), "01 00 00000000"}, {way(nth(math.MaxInt)), "01 01 7fffffffffffffff"},
		{way(nth(2), key("a")), "02 01" + two + "00 00000001 'a'"}, {way(key("a"), nth(2)), "02 00 00000001 'a' 01" + two},
		{way(nth(0), key("ab"), key(""), nth(258), key("\u20ac")), "05 01" + none + "00 00000002 'ab' 00 00000000 01 0000000000000102 00 00000003 e282ac"},
		{make([]api.Step, 14), "0e" + strings.Repeat("00 00000000", 14)},
	}
	for _, r := range rows[:len(rows):len(rows)] {
		for _, w := range ways {
			rows = append(rows, compRow{path(r.c, w.p...), r.b[:2] + w.b + r.b[5:]})
		}
	}
	return append(rows, compRow{path(rem(2), make([]api.Step, 15)...), "05 0f" + strings.Repeat("00 00000000", 15) + two})
}

type entryRow struct {
	e api.Entry
	b string
}

// entryRows are entries of each kind, and their bytes, laid by hand.
func entryRows() []entryRow {
	rows := []entryRow{
		{ends(), "03 00000005 00000006"}, {from(1, 2)(ends()), "03 00000001 00000002"}, {from(0, 0)(ends()), "03 00000000 00000000"},
		{from(0x01020304, 0xfffefdfc)(ends()), "03 01020304 fffefdfc"}, {from(math.MaxUint32, 1<<31)(ends()), "03 ffffffff 80000000"},
		{edit(), "02 00000003 00000004 00000000"}, {from(256, 0xff000000)(edit()), "02 00000100 ff000000 00000000"},
		{create(null()), "01 00000001 00000002 00"}, {from(0xf0000001, 65536)(create(txt("a"))), "01 f0000001 00010000 03 00000001 'a'"},
	}
	var op []api.Comp
	all := ""
	for _, r := range compRows() {
		rows = append(rows, entryRow{edit(r.c), "02 00000003 00000004 00000001" + r.b})
		if len(op) < 150 {
			op, all = append(op, r.c), all+r.b
		}
	}
	for _, r := range valueRows() {
		rows = append(rows, entryRow{create(r.v), "01 00000001 00000002" + r.b})
	}
	return append(rows,
		entryRow{edit(op...), "02 00000003 00000004 00000096" + all},
		entryRow{edit(add(1), rem(0), add(1)), "02 00000003 00000004 00000003 01 00 0000000000000001 05 00 0000000000000000 01 00 0000000000000001"},
		entryRow{edit(make200()...), "02 00000003 00000004 000000c8" + strings.Repeat("03 00 00000000", 200)},
	)
}

func make200() []api.Comp {
	l := make([]api.Comp, 200)
	for i := range l {
		l[i] = del("")
	}
	return l
}

func TestValueBytes(t *testing.T) {
	for _, r := range valueRows() {
		b, e := code.Value(r.v)
		if e != api.OK || !bytes.Equal(b, hx(r.b)) {
			t.Errorf("Value(%s) is %s, %d, not %s", tell(r.v), brief(b), e, brief(hx(r.b)))
		}
		v, e := code.Back(hx(r.b))
		if e != api.OK || !alikeValues(v, r.v) {
			t.Errorf("Back(%s) is %s, %d", brief(hx(r.b)), tell(v), e)
		}
		said(t, bytes.Equal(hx(r.b), plainValue(r.v)))
	}
}

func TestEntryBytes(t *testing.T) {
	for _, r := range entryRows() {
		b, e := code.Encode(r.e)
		if e != api.OK || !bytes.Equal(b, hx(r.b)) {
			t.Errorf("Encode(%s) is %s, %d, not %s", tell(r.e), brief(b), e, brief(hx(r.b)))
		}
		x, e := code.Decode(hx(r.b))
		if e != api.OK || !alike(x, r.e) {
			t.Errorf("Decode(%s) is %s, %d", brief(hx(r.b)), tell(x), e)
		}
		said(t, bytes.Equal(hx(r.b), plainEntry(r.e)))
	}
}

// The chapter's example.
func TestExample(t *testing.T) {
	b, e := code.Encode(api.Entry{Kind: api.Delete, Src: 1, Seq: 2})
	if e != api.OK || !bytes.Equal(b, []byte{3, 0, 0, 0, 1, 0, 0, 0, 2}) {
		t.Errorf("% x, %d", b, e)
	}
}

// Lists that are nil and empty ones are laid alike.
func TestBytesOfEmptyLists(t *testing.T) {
	for _, pair := range [][2]api.Entry{
		{{Kind: api.Edit}, {Kind: api.Edit, Op: []api.Comp{}, V: api.Val{L: []api.Val{}, O: []api.Field{}}}},
		{{Kind: api.Delete}, {Kind: api.Delete, Op: ordinary()[:0]}},
		{create(list()), create(api.Val{Kind: api.List, L: []api.Val{}, O: []api.Field{}})},
		{create(object()), create(api.Val{Kind: api.Obj, L: []api.Val{}, O: []api.Field{}})},
		{edit(rem(1)), edit(path(rem(1), []api.Step{}...))},
	} {
		a, e := code.Encode(pair[0])
		b, f := code.Encode(pair[1])
		if e != api.OK || f != api.OK || !bytes.Equal(a, b) {
			t.Errorf("%s: %s, %d; %s, %d", tell(pair), brief(a), e, brief(b), f)
		}
	}
}
