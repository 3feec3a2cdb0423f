package log_test

import (
	"bytes"
	"slices"
	"testing"
	"unsafe"

	"conciliator/api"
	"conciliator/log"
)

// span is a piece of memory, and how long it is.
type span struct {
	from uintptr
	long uintptr
}

func letters(s string) span {
	return span{uintptr(unsafe.Pointer(unsafe.StringData(s))), uintptr(len(s))}
}

func spanOf[T any](l []T) span {
	var one T
	return span{uintptr(unsafe.Pointer(unsafe.SliceData(l))), uintptr(cap(l)) * unsafe.Sizeof(one)}
}

// spans are all pieces of memory that an entry has, behind its lists' lengths too.
func spans(e api.Entry) []span {
	out := valueSpans(e.V, []span{spanOf(e.Op)})
	for _, c := range e.Op {
		out = append(out, letters(c.Key), letters(c.S), spanOf(c.Path))
		for _, s := range c.Path {
			out = append(out, letters(s.Key))
		}
		out = valueSpans(c.V, out)
	}
	return out
}

func valueSpans(v api.Val, out []span) []span {
	out = append(out, letters(v.S), spanOf(v.L), spanOf(v.O))
	for _, x := range v.L {
		out = valueSpans(x, out)
	}
	for _, f := range v.O {
		out = valueSpans(f.V, append(out, letters(f.Key)))
	}
	return out
}

// apart says that no two pieces have a byte that is both's.
func apart(all []span) bool {
	all = slices.DeleteFunc(all, func(s span) bool { return s.long == 0 })
	slices.SortFunc(all, func(a, b span) int {
		if a.from < b.from {
			return -1
		}
		return 1
	})
	for i := 1; i < len(all); i++ {
		if all[i-1].from+all[i-1].long > all[i].from {
			return false
		}
	}
	return true
}

// own are some entries in memory of their own.
func own() []api.Entry {
	var out []api.Entry
	for _, e := range some() {
		out = append(out, twin(e))
	}
	return out
}

// change makes all of an entry another one, in its own memory.
func change(e *api.Entry) {
	changeValue(&e.V)
	for i := range e.Op {
		c := &e.Op[i]
		for j := range c.Path {
			c.Path[j] = api.Step{I: 52, Key: "changed"}
		}
		changeValue(&c.V)
		*c = api.Comp{Kind: 53, Key: "changed", Path: c.Path, V: c.V}
	}
	e.Kind, e.Src, e.Seq = 54, 55, 56
}

func changeValue(v *api.Val) {
	for i := range v.L {
		changeValue(&v.L[i])
	}
	for i := range v.O {
		changeValue(&v.O[i].V)
		v.O[i].Key = "changed"
	}
	v.Kind, v.N, v.S = 57, 58, "changed"
}

func TestWhatComesOutIsNewMemory(t *testing.T) {
	d := fresh()
	l, _ := opened(t, d, "a")
	in := own()
	appended(t, l, in...)
	appended(t, l, in...)
	_, one := opened(t, d, "a")
	_, two := opened(t, d, "a")
	pieces := []span{spanOf(one), spanOf(two)}
	for _, all := range [][]api.Entry{in, one, two} {
		for _, e := range all {
			pieces = append(pieces, spans(e)...)
		}
	}
	if !apart(pieces) {
		t.Error("memory is shared")
	}
}

// What comes to be of an answer is seen nowhere else.
func TestAnswersStandAlone(t *testing.T) {
	d := begun(t, own()...)
	l, one := opened(t, d, "a")
	_, two := opened(t, d, "a")
	was := looks(d)
	for i := range one {
		change(&one[i])
	}
	_ = append(one[:1], ends(1), ends(2))
	if !alike(two, some()) || looks(d) != was || l.Len() != len(some()) {
		t.Error("a change came through")
	}
	appended(t, l, ends(3))
	holds(t, d, "a", append(some(), ends(3))...)
}

// An entry that was handed in is neither changed nor kept.
func TestNothingHandedInIsKept(t *testing.T) {
	d := fresh()
	l, _ := opened(t, d, "a")
	in := own()
	appended(t, l, in...)
	if !alike(in, some()) {
		t.Error("it is changed")
	}
	for i := range in {
		change(&in[i])
	}
	holds(t, d, "a", some()...)
	appended(t, l, ends(1))
	holds(t, d, "a", append(some(), ends(1))...)
}

// Nor one that was refused, also where the disk is halted between the two calls.
func TestNothingRefusedIsKept(t *testing.T) {
	for _, calls := range []int{0, 1} {
		for i := range some() {
			d := fresh()
			l, _ := opened(t, d, "a")
			in := own()
			d.Halt(calls)
			if l.Append(in[i]) != api.ErrFull || !alike(in, some()) {
				t.Error("it is changed, or not refused")
			}
			change(&in[i])
			d.Crash(mostRoom)
			holds(t, d, "a", some()[i:i+calls]...)
		}
	}
}

// What lies behind the lengths of lists is neither read nor written.
func TestBehindTheLength(t *testing.T) {
	d := fresh()
	l, _ := opened(t, d, "a")
	all := append(own(), ends(7))
	op := []api.Comp{{Kind: api.Add, N: 1}, {Kind: 77, S: "behind"}}
	values := []api.Val{number(1), {Kind: 66, S: "behind"}}
	fields := []api.Field{at("k", number(1)), at("a", txt("behind"))}
	steps := []api.Step{{Key: "k"}, {I: -1, Key: "behind"}}
	e := edit(op[:1]...)
	f := create(list(list(values[:1]...), object(fields[:1]...)))
	g := edit(api.Comp{Kind: api.Rem, Path: steps[:1]}, api.Comp{Kind: api.Set, Path: steps[:0], V: list(values[:0]...)})
	appended(t, l, e, f, g)
	want := []api.Entry{twin(e), twin(f), twin(g)}
	holds(t, d, "a", want...)
	if op[1].S != "behind" || values[1].S != "behind" || fields[1].V.S != "behind" || steps[1].Key != "behind" || !alike([]api.Entry{e, f, g}, want) {
		t.Error("it is changed")
	}
	_, one := opened(t, begun(t, all...), "a")
	for _, x := range one[len(one):cap(one)] {
		if !alike([]api.Entry{x}, []api.Entry{{}}) {
			t.Errorf("behind what is told lies %s", tell(x))
		}
	}
}

// A name that was handed in is not kept: where its memory changes, the log's file is the same.
func TestNoNameIsKept(t *testing.T) {
	d := fresh()
	written := []byte("name")
	l, _ := opened(t, d, unsafe.String(unsafe.SliceData(written), len(written)))
	copy(written, "else")
	appended(t, l, ends(1))
	copy(written, "more")
	appended(t, l, ends(2))
	holds(t, d, "name", ends(1), ends(2))
	if !slices.Equal(d.Names(), []string{"name.log"}) {
		t.Errorf("the files are %q", d.Names())
	}
}

// What was read of the file stays as it was, whatever is appended.
func TestWhatWasReadStays(t *testing.T) {
	d := begun(t, ends(1))
	b, _ := d.Read("a.log")
	was := slices.Clone(b)
	l, _ := opened(t, d, "a")
	appended(t, l, some()...)
	for i := range b {
		b[i] ^= 0x55
	}
	holds(t, d, "a", append([]api.Entry{ends(1)}, some()...)...)
	if bytes.Equal(b, was) {
		t.Error("the test itself is wrong")
	}
}

// alone does all that a log can do, on a disk of its own, and says whether it came out as it is to be.
func alone() bool {
	d := fresh()
	d.Append("a.log", []byte{1})
	l, none, e := log.Open(d, "a")
	if e != api.OK || len(none) > 0 {
		return false
	}
	for _, x := range some() {
		if l.Append(x) != api.OK {
			return false
		}
	}
	_, all, e := log.Open(d, "a")
	return e == api.OK && alike(all, some())
}

// Many go on with logs of their own at the same time, each on a disk of its own.
func TestAtTheSameTime(t *testing.T) {
	all := make(chan bool)
	for range 8 {
		go func() {
			ok := true
			for range 20 {
				ok = alone() && ok
			}
			all <- ok
		}()
	}
	for range 8 {
		if !<-all {
			t.Error("something else")
		}
	}
}
