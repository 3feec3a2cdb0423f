package log_test

import (
	"bytes"
	"encoding/binary"
	"fmt"
	"hash/crc32"
	"math"
	"math/rand"
	"reflect"
	"strings"
	"testing"

	"conciliator/api"
	"conciliator/code"
	"conciliator/disk"
	"conciliator/log"
)

// The chapter's numbers, and those of the chapters that it speaks of.
const (
	most      = 5000
	mostName  = 20
	mostBytes = 60000
	mostRoom  = 1 << 20
	mostFiles = 64
	head      = 8
)

func number(n int64) api.Val           { return api.Val{Kind: api.Int, N: n} }
func txt(s string) api.Val             { return api.Val{Kind: api.Text, S: s} }
func list(l ...api.Val) api.Val        { return api.Val{Kind: api.List, L: l} }
func object(o ...api.Field) api.Val    { return api.Val{Kind: api.Obj, O: o} }
func at(k string, v api.Val) api.Field { return api.Field{Key: k, V: v} }

func create(v api.Val) api.Entry    { return api.Entry{Kind: api.Create, Src: 1, Seq: 2, V: v} }
func edit(op ...api.Comp) api.Entry { return api.Entry{Kind: api.Edit, Src: 3, Seq: 4, Op: op} }
func ends(seq uint32) api.Entry     { return api.Entry{Kind: api.Delete, Src: 5, Seq: seq} }

// long is an entry that has so many bytes.
func long(many int) api.Entry {
	return edit(api.Comp{Kind: api.Tins, S: strings.Repeat("x", many-27)})
}

// some are sound entries, of each kind and of several lengths; no two are the same.
func some() []api.Entry {
	x := list(txt("new"), object(at("p", list(txt("q"), number(-7))), at("q", api.Val{})), txt("z\u20ac"))
	p := []api.Step{{List: true, I: 2}, {Key: "k"}}
	return []api.Entry{
		create(x), ends(1), edit(), create(api.Val{}), ends(1<<32 - 1),
		edit(api.Comp{Kind: api.Put, Path: p, Key: "k", V: x}, api.Comp{Kind: api.Add, Path: p[:1], N: math.MinInt64}),
		create(txt(strings.Repeat("t", 300))), edit(api.Comp{Kind: api.Move, I: 1 << 40, J: 3}), ends(0),
	}
}

// many are so many sound entries by chance.
func many(r *rand.Rand, many int) []api.Entry {
	var out []api.Entry
	for i := range many {
		e := some()[r.Intn(len(some()))]
		e.Seq = uint32(i)
		out = append(out, e)
	}
	return out
}

// framed is a frame as the chapter's words make it, of bytes that are told to be so many.
func framed(tells uint32, b []byte) []byte {
	four := binary.BigEndian.AppendUint32(nil, tells)
	sum := crc32.ChecksumIEEE(append(four[:4:4], b...))
	return append(binary.BigEndian.AppendUint32(four, sum), b...)
}

// whole is the frame of just these bytes.
func whole(b []byte) []byte { return framed(uint32(len(b)), b) }

// bytesOf is an entry as bytes.
func bytesOf(e api.Entry) []byte {
	b, f := code.Encode(e)
	if f != api.OK {
		panic(fmt.Sprintf("the test itself is wrong: Encode is %d", f))
	}
	return b
}

// row are the frames of entries, one behind the other: what a log's file is to be.
func row(all ...api.Entry) []byte {
	out := []byte{}
	for _, e := range all {
		out = append(out, whole(bytesOf(e))...)
	}
	return out
}

// plainOpen are the entries of a file by the chapter's words, and how many bytes they are.
func plainOpen(b []byte) ([]api.Entry, int) {
	if len(b) < head {
		return nil, 0
	}
	n := uint64(binary.BigEndian.Uint32(b))
	if n > mostBytes || n+head > uint64(len(b)) {
		return nil, 0
	}
	held := b[head : head+n]
	e, f := code.Decode(held)
	if f != api.OK || !bytes.Equal(whole(held), b[:head+n]) {
		return nil, 0
	}
	rest, end := plainOpen(b[head+n:])
	return append([]api.Entry{e}, rest...), end + head + int(n)
}

// twin is a copy made for the tests alone, in memory of its own; lists that are nil and empty ones are the same in it.
func twin(e api.Entry) api.Entry {
	f := api.Entry{Kind: e.Kind, Src: e.Src, Seq: e.Seq, V: twinValue(e.V)}
	for _, c := range e.Op {
		var p []api.Step
		for _, s := range c.Path {
			p = append(p, api.Step{List: s.List, I: s.I, Key: strings.Clone(s.Key)})
		}
		c.Path, c.Key, c.S, c.V = p, strings.Clone(c.Key), strings.Clone(c.S), twinValue(c.V)
		f.Op = append(f.Op, c)
	}
	return f
}

func twinValue(v api.Val) api.Val {
	w := api.Val{Kind: v.Kind, N: v.N, S: strings.Clone(v.S)}
	for _, x := range v.L {
		w.L = append(w.L, twinValue(x))
	}
	for _, f := range v.O {
		w.O = append(w.O, at(strings.Clone(f.Key), twinValue(f.V)))
	}
	return w
}

// alike says that all fields of all entries are the same.
func alike(a, b []api.Entry) bool {
	if len(a) != len(b) {
		return false
	}
	for i := range a {
		if !reflect.DeepEqual(twin(a[i]), twin(b[i])) {
			return false
		}
	}
	return true
}

// tell is the beginning of what something is, as a text.
func tell(x any) string {
	s := fmt.Sprintf("%+v", x)
	return s[:min(len(s), 200)]
}

func brief(b []byte) []byte { return b[:min(len(b), 60)] }

// name is one of so many bytes.
func name(many int) string { return strings.Repeat("n", many) }

// odd are numbers, of which some are as great and as small as any.
func odd() []int {
	return []int{math.MinInt, math.MinInt32, -mostRoom, -2, -1, 0, 1, 2, 7, 8, 9, 16, 17, 18, 100, mostRoom, math.MaxInt32, math.MaxInt - 1, math.MaxInt}
}

// fresh is an empty disk, as great as any.
func fresh() *disk.Disk { return disk.New(mostRoom) }

// lay puts bytes that last at a file's end.
func lay(t *testing.T, d *disk.Disk, file string, b []byte) {
	t.Helper()
	if d.Append(file, b) != api.OK || d.Sync(file) != api.OK {
		t.Fatalf("%q can't be laid", file)
	}
}

// with is a disk with a file a.log, of bytes that last.
func with(t *testing.T, b []byte) *disk.Disk {
	t.Helper()
	d := fresh()
	lay(t, d, "a.log", b)
	return d
}

// looks is all that a disk tells of its files.
func looks(d *disk.Disk) string {
	s := ""
	for _, n := range d.Names() {
		b, e := d.Read(n)
		s += fmt.Sprintf("%q %x %d\n", n, b, e)
	}
	return s + fmt.Sprint(d.Used(), d.Halted())
}

// took is how many calls of a disk something takes up.
func took(d *disk.Disk, do func()) int {
	const enough = 100
	d.Halt(enough)
	do()
	left := 0
	for !d.Halted() {
		d.Sync("no such file")
		left++
	}
	d.Halt(-1)
	return enough - left
}

// opened is a log, with what Open tells of it; Len is to agree.
func opened(t *testing.T, d *disk.Disk, name string) (*log.Log, []api.Entry) {
	t.Helper()
	l, all, e := log.Open(d, name)
	if e != api.OK || l == nil {
		t.Fatalf("Open(%q) is %d", name, e)
	}
	if l.Len() != len(all) {
		t.Errorf("Open(%q): Len is %d, of %d entries", name, l.Len(), len(all))
	}
	return l, all
}

// holds says that Open tells just these entries.
func holds(t *testing.T, d *disk.Disk, name string, want ...api.Entry) *log.Log {
	t.Helper()
	l, all := opened(t, d, name)
	if !alike(all, want) {
		t.Errorf("Open(%q) are %d entries, want %d: %s, want %s", name, len(all), len(want), tell(all), tell(want))
	}
	return l
}

// has says that a file is there, with these bytes.
func has(t *testing.T, d *disk.Disk, file string, want []byte) {
	t.Helper()
	if got, e := d.Read(file); e != api.OK || !bytes.Equal(got, want) {
		t.Errorf("%q has %d bytes, %d, % x, want %d, % x", file, len(got), e, brief(got), len(want), brief(want))
	}
}

// appended says that entries are laid down, one by one.
func appended(t *testing.T, l *log.Log, all ...api.Entry) {
	t.Helper()
	for _, e := range all {
		n := l.Len()
		if f := l.Append(e); f != api.OK {
			t.Fatalf("Append(%s) is %d", tell(e), f)
		}
		if l.Len() != n+1 {
			t.Errorf("Len is %d behind %d", l.Len(), n)
		}
	}
}

// refused says that an entry is not laid down, and that all is as it was.
func refused(t *testing.T, d *disk.Disk, l *log.Log, e api.Entry, want api.Errno) {
	t.Helper()
	was, n := looks(d), l.Len()
	if f := l.Append(e); f != want {
		t.Errorf("Append(%s) is %d, want %d", tell(e), f, want)
	}
	if l.Len() != n {
		t.Errorf("Append(%s): Len is %d, was %d", tell(e), l.Len(), n)
	}
	if looks(d) != was {
		t.Errorf("Append(%s): the disk is another one now", tell(e))
	}
}
