package log_test

import (
	"strings"
	"testing"

	"conciliator/api"
	"conciliator/disk"
	"conciliator/log"
)

func TestAppend(t *testing.T) {
	d := fresh()
	l, _ := opened(t, d, "a")
	for i, e := range some() {
		if used := took(d, func() { appended(t, l, e) }); used != 2 {
			t.Errorf("Append took %d calls", used)
		}
		has(t, d, "a.log", row(some()[:i+1]...))
		holds(t, d, "a", some()[:i+1]...)
	}
	if l.Len() != len(some()) {
		t.Errorf("Len is %d", l.Len())
	}
}

// The same entry may be laid down again: it is another one then.
func TestAppendOfTheSame(t *testing.T) {
	d := fresh()
	l, _ := opened(t, d, "a")
	appended(t, l, ends(1), ends(1), ends(1))
	holds(t, d, "a", ends(1), ends(1), ends(1))
}

func TestAppendOfTheLongest(t *testing.T) {
	d := fresh()
	l, _ := opened(t, d, "a")
	appended(t, l, long(mostBytes), long(mostBytes-1))
	refused(t, d, l, long(mostBytes+1), api.ErrLimit)
	appended(t, l, ends(1))
	d.Crash(0)
	holds(t, d, "a", long(mostBytes), long(mostBytes-1), ends(1))
}

func deep(n int) api.Val {
	v := list()
	for range n {
		v = list(v)
	}
	return v
}

// unsound are entries that are none.
func unsound() []api.Entry {
	return []api.Entry{
		{}, {Kind: 4}, {Kind: 255},
		{Kind: api.Create, Op: []api.Comp{{Kind: api.Add}}}, create(api.Val{Kind: 6}), create(txt("\xff")), create(deep(17)), create(txt(strings.Repeat("x", 20000))),
		{Kind: api.Edit, V: number(1)}, edit(api.Comp{}), edit(api.Comp{Kind: api.Rem, I: -1}), edit(make([]api.Comp, 201)...), edit(api.Comp{Kind: api.Add, S: "x"}),
		{Kind: api.Delete, V: number(1)}, {Kind: api.Delete, Op: []api.Comp{{Kind: api.Add}}},
	}
}

// tooLong are entries that are sound, and have too many bytes.
func tooLong() []api.Entry {
	v := list()
	for i := range 19000 {
		v.L = append(v.L, number(int64(i)))
	}
	return []api.Entry{long(mostBytes + 1), long(mostBytes + 2), long(2 * mostBytes), create(v)}
}

func TestAppendOfWhatCanNotBeWritten(t *testing.T) {
	for _, begun := range [][]api.Entry{nil, some()} {
		d := fresh()
		l, _ := opened(t, d, "a")
		appended(t, l, begun...)
		used := took(d, func() {
			for _, e := range unsound() {
				refused(t, d, l, e, api.ErrArg)
			}
			for _, e := range tooLong() {
				refused(t, d, l, e, api.ErrLimit)
			}
		})
		if used != 0 {
			t.Errorf("they took %d calls", used)
		}
		d.Crash(1000)
		holds(t, d, "a", begun...)
		appended(t, l, ends(1))
		holds(t, d, "a", append(begun, ends(1))...)
	}
}

// 5000 entries, and one more; what can't be written, and a disk that does nothing, come behind that.
func TestAppendOfOneMoreThanFit(t *testing.T) {
	d := fresh()
	l, _ := opened(t, d, "a")
	var all []api.Entry
	for i := range most {
		if l.Len() != i {
			t.Fatalf("Len is %d, want %d", l.Len(), i)
		}
		all = append(all, ends(uint32(i)))
		appended(t, l, all[i])
	}
	more := func() {
		t.Helper()
		refused(t, d, l, ends(1), api.ErrLimit)
		refused(t, d, l, api.Entry{}, api.ErrLimit)
		refused(t, d, l, create(api.Val{Kind: 6}), api.ErrLimit)
		refused(t, d, l, long(mostBytes+1), api.ErrLimit)
	}
	if used := took(d, more); used != 0 {
		t.Errorf("they took %d calls", used)
	}
	d.Full(true)
	more()
	d.Halt(0)
	more()
	d.Crash(0)
	more()
	l = holds(t, d, "a", all...)
	more()
	// Another log of that disk is not full.
	b, _ := opened(t, d, "b")
	appended(t, b, ends(1))
}

// nothing says that whatever is appended is refused, as the disk says; what can't be written comes ahead of that.
func nothing(t *testing.T, d *disk.Disk, l *log.Log) {
	t.Helper()
	for _, e := range some() {
		refused(t, d, l, e, api.ErrFull)
	}
	refused(t, d, l, long(mostBytes), api.ErrFull)
	refused(t, d, l, api.Entry{}, api.ErrArg)
	refused(t, d, l, create(txt("\xff")), api.ErrArg)
	refused(t, d, l, long(mostBytes+1), api.ErrLimit)
}

func TestAppendToAFullDisk(t *testing.T) {
	for _, begun := range [][]api.Entry{nil, some()} {
		d := fresh()
		l, _ := opened(t, d, "a")
		appended(t, l, begun...)
		d.Full(true)
		nothing(t, d, l)
		// What is refused by the disk is no more than one call of it.
		if used := took(d, func() { refused(t, d, l, ends(1), api.ErrFull) }); used != 1 {
			t.Errorf("it took %d calls", used)
		}
		d.Full(false)
		appended(t, l, ends(1))
		has(t, d, "a.log", row(append(begun, ends(1))...))
		d.Full(true)
		nothing(t, d, l)
		d.Crash(0)
		appended(t, l, ends(2))
		holds(t, d, "a", append(begun, ends(1), ends(2))...)
	}
}

func TestAppendToAHaltedDisk(t *testing.T) {
	for _, begun := range [][]api.Entry{nil, some()} {
		for _, on := range []func(d *disk.Disk){func(d *disk.Disk) { d.Halt(-1) }, func(d *disk.Disk) { d.Crash(0) }} {
			d := fresh()
			l, _ := opened(t, d, "a")
			appended(t, l, begun...)
			d.Halt(0)
			nothing(t, d, l)
			on(d)
			appended(t, l, ends(1))
			has(t, d, "a.log", row(append(begun, ends(1))...))
			d.Crash(0)
			holds(t, d, "a", append(begun, ends(1))...)
		}
	}
}

// Just so much room as the frame is long; a smaller one may fit where a greater one did not.
func TestAppendToNoRoom(t *testing.T) {
	e := some()[0]
	need := len(row(e))
	for less := 1; less <= need; less++ {
		d := disk.New(need - less)
		l, _ := opened(t, d, "a")
		refused(t, d, l, e, api.ErrFull)
		holds(t, d, "a")
	}
	d := disk.New(need + 17)
	l, _ := opened(t, d, "a")
	appended(t, l, e)
	refused(t, d, l, create(api.Val{}), api.ErrFull)
	appended(t, l, ends(1))
	refused(t, d, l, ends(2), api.ErrFull)
	holds(t, d, "a", e, ends(1))

	d = disk.New(need + 20)
	l, _ = opened(t, d, "a")
	lay(t, d, "b", make([]byte, 21))
	refused(t, d, l, e, api.ErrFull)
	d.Cut("b", 20)
	appended(t, l, e)
	d.Crash(0)
	holds(t, d, "a", e)
}

func TestAppendToAsManyFilesAsFit(t *testing.T) {
	d := fresh()
	l, _ := opened(t, d, "a")
	for i := range mostFiles {
		lay(t, d, name(i%8+1)+string(rune('A'+i/8)), nil)
	}
	refused(t, d, l, ends(1), api.ErrFull)
	d.Drop("nA")
	appended(t, l, ends(1))
	// It has its place then.
	appended(t, l, ends(2))
	m, _ := opened(t, d, "b")
	refused(t, d, m, ends(1), api.ErrFull)
	holds(t, d, "a", ends(1), ends(2))
	holds(t, d, "b")
}

// Where the disk is halted between the two calls, Sync is an error. The disk cuts nothing any more then: what was laid
// down does not last, though, so that file and log are as they were.
func TestAppendThatIsNotSynced(t *testing.T) {
	for _, begun := range [][]api.Entry{nil, some()} {
		for _, e := range some() {
			d := fresh()
			l, _ := opened(t, d, "a")
			appended(t, l, begun...)
			d.Halt(1)
			if f := l.Append(e); f != api.ErrFull {
				t.Errorf("Append is %d", f)
			}
			if l.Len() != len(begun) || !d.Halted() {
				t.Errorf("Len is %d, halted %v", l.Len(), d.Halted())
			}
			nothing(t, d, l)
			d.Crash(0)
			has(t, d, "a.log", row(begun...))
			holds(t, d, "a", begun...)
			appended(t, l, ends(1), ends(2))
			has(t, d, "a.log", row(append(begun, ends(1), ends(2))...))
			d.Crash(0)
			holds(t, d, "a", append(begun, ends(1), ends(2))...)
		}
	}
}

// The file is cut where it was by the next Append that can do so: it goes on where the log is, whatever a crash kept.
func TestAppendBehindOneThatIsNotSynced(t *testing.T) {
	for _, begun := range [][]api.Entry{nil, some()} {
		for keep := -1; keep < 20; keep++ {
			d := fresh()
			l, _ := opened(t, d, "a")
			appended(t, l, begun...)
			d.Halt(1)
			l.Append(ends(1))
			d.Crash(keep)
			has(t, d, "a.log", append(row(begun...), row(ends(1))[:min(max(keep, 0), 17)]...))
			appended(t, l, ends(2))
			if used := took(d, func() { appended(t, l, ends(3)) }); used != 2 {
				t.Errorf("Append took %d calls", used)
			}
			has(t, d, "a.log", row(append(begun, ends(2), ends(3))...))
			d.Crash(0)
			holds(t, d, "a", append(begun, ends(2), ends(3))...)
		}
	}
}

// So it does where the disk goes on without a crash, though the chapter promises nothing there.
func TestAppendWhereTheDiskGoesOn(t *testing.T) {
	for _, begun := range [][]api.Entry{nil, some()} {
		for _, e := range some() {
			d := fresh()
			l, _ := opened(t, d, "a")
			appended(t, l, begun...)
			d.Halt(1)
			l.Append(e)
			d.Halt(-1)
			appended(t, l, ends(2))
			has(t, d, "a.log", row(append(begun, ends(2))...))
			d.Crash(0)
			holds(t, d, "a", append(begun, ends(2))...)
		}
	}
}

// It goes on for some calls: what was left is cut off, then the frame is laid down, then it is synced.
func TestAppendWhereTheDiskGoesOnForSomeCalls(t *testing.T) {
	for calls := range 4 {
		d := fresh()
		l, _ := opened(t, d, "a")
		appended(t, l, some()...)
		d.Halt(1)
		l.Append(long(500))
		d.Halt(calls)
		if f := l.Append(ends(3)); (f == api.OK) != (calls == 3) || f != api.OK && f != api.ErrFull {
			t.Errorf("Append is %d, of %d calls", f, calls)
		}
		d.Halt(-1)
		if calls < 3 {
			appended(t, l, ends(3))
		}
		appended(t, l, ends(4))
		has(t, d, "a.log", row(append(some(), ends(3), ends(4))...))
	}
}

// What is not to be cut off stays, where it is not owed: entries that another log of the same file appended.
func TestAppendOfTwoLogsOfOneFile(t *testing.T) {
	d := fresh()
	l, _ := opened(t, d, "a")
	m, _ := opened(t, d, "a")
	appended(t, l, ends(1))
	appended(t, m, ends(2), ends(3))
	appended(t, l, ends(4))
	if l.Len() != 2 || m.Len() != 2 {
		t.Errorf("Len is %d, %d", l.Len(), m.Len())
	}
	d.Halt(1)
	l.Append(ends(5))
	d.Crash(3)
	appended(t, l, ends(6))
	d.Crash(0)
	holds(t, d, "a", ends(1), ends(2), ends(3), ends(4), ends(6))
}

// Each error leaves a log that goes on as if there had been none.
func TestAppendBehindErrors(t *testing.T) {
	d := fresh()
	l, _ := opened(t, d, "a")
	var all []api.Entry
	for i, e := range some() {
		refused(t, d, l, unsound()[i], api.ErrArg)
		refused(t, d, l, tooLong()[0], api.ErrLimit)
		d.Full(true)
		refused(t, d, l, e, api.ErrFull)
		d.Full(false)
		d.Halt(0)
		refused(t, d, l, e, api.ErrFull)
		d.Crash(i)
		d.Halt(1)
		l.Append(long(100 + i))
		d.Crash(i)
		appended(t, l, e)
		all = append(all, e)
		has(t, d, "a.log", row(all...))
	}
	holds(t, d, "a", all...)
}
