package log_test

import (
	"bytes"
	"math/rand"
	"slices"
	"testing"

	"conciliator/api"
	"conciliator/code"
	"conciliator/disk"
	"conciliator/log"
)

func TestOpenOfNamesThatAreNone(t *testing.T) {
	for _, n := range []string{"", name(mostName + 1), name(mostName + 2), name(26), name(27), name(256), name(mostName + 256), "\u20ac\u20ac\u20ac\u20ac\u20ac\u20ac\u20ac"} {
		for _, there := range []bool{false, true} {
			d := fresh()
			if there {
				// Where the disk takes such a name, there is something to be cut off.
				d.Append(n+".log", append(row(some()...), 1))
			}
			was := looks(d)
			used := took(d, func() {
				l, all, e := log.Open(d, n)
				if e != api.ErrLog || l != nil || all != nil {
					t.Errorf("Open(%q) is %v, %d entries, %d", n, l, len(all), e)
				}
			})
			if used != 0 || looks(d) != was {
				t.Errorf("Open(%q) took %d calls, and the disk is %s", n, used, looks(d))
			}
		}
	}
}

func TestOpenOfNames(t *testing.T) {
	d := fresh()
	var files []string
	for many := 1; many <= mostName; many++ {
		l := holds(t, d, name(many))
		appended(t, l, ends(uint32(many)))
		files = append(files, name(many)+".log")
		has(t, d, name(many)+".log", row(ends(uint32(many))))
	}
	slices.Sort(files)
	if !slices.Equal(d.Names(), files) {
		t.Errorf("the files are %q", d.Names())
	}
	for many := 1; many <= mostName; many++ {
		holds(t, d, name(many), ends(uint32(many)))
	}
}

// A name's bytes are counted, not its characters, and may be any.
func TestOpenOfNamesOfAnyBytes(t *testing.T) {
	d := fresh()
	all := []string{"\x00", "\xff", " ", "/", "..", ".log", "a", "A", "a.log", "a.log.log", "\u00e9", "\u20ac\u20ac\u20ac\u20ac\u20ac\u20acab", "\xff\xfe" + name(18)}
	for i, n := range all {
		l := holds(t, d, n)
		appended(t, l, ends(uint32(i)))
		has(t, d, n+".log", row(ends(uint32(i))))
	}
	if len(d.Names()) != len(all) {
		t.Errorf("the files are %q", d.Names())
	}
	for i, n := range all {
		holds(t, d, n, ends(uint32(i)))
	}
}

// No file is made, and none but its own is looked at.
func TestOpenWhereThereIsNoFile(t *testing.T) {
	for _, files := range [][]string{nil, {"a", "b.log", "A.log", "a.log.log", "aa.log", ".log", "a.snap", "log", "a.lo", "alog"}} {
		d := fresh()
		for _, f := range files {
			lay(t, d, f, append(row(some()...), 1, 2))
		}
		was := looks(d)
		used := took(d, func() { holds(t, d, "a") })
		if used != 0 || looks(d) != was {
			t.Errorf("Open took %d calls, and the disk is %s", used, looks(d))
		}
		d.Full(true)
		holds(t, d, "a")
		d.Halt(0)
		holds(t, d, "a")
	}
}

// held opens a log of a file that has some bytes, and says that all is as the chapter's words say: what it tells, what
// is left of the file, how many calls that took, that it is the same done again, and that it goes on there.
func held(t *testing.T, b []byte) {
	t.Helper()
	d := with(t, b)
	want, end := plainOpen(b)
	used := took(d, func() { holds(t, d, "a", want...) })
	if (used == 1) != (end < len(b)) || used > 1 {
		t.Errorf("of %d bytes, %d good ones, Open took %d calls", len(b), end, used)
	}
	has(t, d, "a.log", b[:end])
	if used := took(d, func() { holds(t, d, "a", want...) }); used != 0 {
		t.Errorf("Open of what was cut took %d calls", used)
	}
	d.Crash(len(b))
	has(t, d, "a.log", b[:end])
	l := holds(t, d, "a", want...)
	if l.Len() < most {
		appended(t, l, ends(77))
		d.Crash(0)
		has(t, d, "a.log", append(slices.Clone(b[:end]), row(ends(77))...))
		holds(t, d, "a", append(want, ends(77))...)
	}
}

// wants is held, where the test itself knows how many entries there are.
func wants(t *testing.T, b []byte, many int) {
	t.Helper()
	if all, _ := plainOpen(b); len(all) != many {
		t.Fatalf("the test itself is wrong: %d entries, not %d", len(all), many)
	}
	held(t, b)
}

func TestOpenOfAnEmptyFile(t *testing.T) {
	wants(t, nil, 0)
	d := fresh()
	d.Append("a.log", nil)
	holds(t, d, "a")
}

func TestOpenOfWholeFrames(t *testing.T) {
	all := some()
	for i := range all {
		wants(t, row(all[i]), 1)
		wants(t, row(all[:i]...), i)
		wants(t, row(all[i], all[i], all[0]), 3)
	}
	wants(t, row(long(mostBytes)), 1)
	wants(t, row(ends(1), long(mostBytes-1), ends(2), long(mostBytes), ends(3)), 5)
}

// Each front of frames: what is no whole one at the end is cut off.
func TestOpenOfAnEndThatIsNoWholeFrame(t *testing.T) {
	all := some()[:4]
	b := row(all...)
	for i := range len(b) {
		whole := 0
		for whole < len(all) && len(row(all[:whole+1]...)) <= i {
			whole++
		}
		wants(t, b[:i], whole)
	}
	for i := range 30 {
		wants(t, append(row(all...), make([]byte, i)[:min(i, 7)]...), 4)
		wants(t, append(row(all...), bytes.Repeat([]byte{0xff}, i)...), 4)
		wants(t, append(row(all...), row(long(mostBytes))[:i*2000]...), 4)
	}
}

// broken are bytes that are no frame of an entry; some are whole frames.
func broken() [][]byte {
	good := bytesOf(some()[0])
	value, _ := code.Value(some()[0].V)
	var out [][]byte
	for _, b := range [][]byte{
		nil, {0}, {4}, {3, 0, 0, 0, 1, 0, 0, 0}, {3, 0, 0, 0, 1, 0, 0, 0, 2, 0}, {0, 0, 0, 0, 1, 0, 0, 0, 2}, {4, 0, 0, 0, 1, 0, 0, 0, 2},
		good[1:], good[:len(good)-1], append(slices.Clone(good), 0), value, whole(good), make([]byte, mostBytes), bytes.Repeat(good, 3),
		// A truth of 2, and a component of which nothing can be done.
		append(bytesOf(ends(1))[:0:0], 1, 0, 0, 0, 1, 0, 0, 0, 2, 1, 0, 0, 0, 0, 0, 0, 0, 2),
		append([]byte{2, 0, 0, 0, 1, 0, 0, 0, 2, 0, 0, 0, 1}, 77, 0),
	} {
		out = append(out, whole(b))
	}
	bad := whole(good)
	for i := range 8 {
		other := slices.Clone(bad)
		other[i] ^= 1
		out = append(out, other)
	}
	other := slices.Clone(bad)
	other[len(other)-1] ^= 0x80
	return append(out, other, framed(mostBytes+1, make([]byte, mostBytes+1)), framed(1<<32-1, good), framed(uint32(len(good)-1), good))
}

func TestOpenOfAFrameThatHoldsNoEntry(t *testing.T) {
	for _, b := range broken() {
		wants(t, b, 0)
		for i := range 4 {
			wants(t, append(row(some()[:i]...), b...), i)
		}
	}
}

// What stands behind the last good one goes, whole frames of entries too.
func TestOpenOfAFrameThatHoldsNoEntryInTheMidst(t *testing.T) {
	all := some()
	for _, b := range broken() {
		for i := range all {
			wants(t, slices.Concat(row(all[:i]...), b, row(all[i:]...)), i)
		}
		wants(t, slices.Concat(row(all[0]), b, row(all[1]), b, row(all[2]), []byte{1}), 1)
	}
}

func TestOpenOfAnyFileTellsNoMoreThanItHas(t *testing.T) {
	r := rand.New(rand.NewSource(3))
	for range 300 {
		all := many(r, r.Intn(12))
		b := row(all...)
		for range r.Intn(3) {
			if len(b) > 0 {
				b[r.Intn(len(b))] ^= 1 << r.Intn(8)
			}
		}
		held(t, b[:len(b)-r.Intn(len(b)/4+1)])
	}
}

// A full disk cuts all the same.
func TestOpenOnAFullDisk(t *testing.T) {
	b := append(row(some()...), 1, 2, 3)
	d := with(t, b)
	d.Full(true)
	l := holds(t, d, "a", some()...)
	has(t, d, "a.log", row(some()...))
	refused(t, d, l, ends(1), api.ErrFull)
	d.Full(false)
	appended(t, l, ends(1))
	has(t, d, "a.log", row(append(some(), ends(1))...))

	small := disk.New(len(b))
	lay(t, small, "a.log", b)
	l = holds(t, small, "a", some()...)
	has(t, small, "a.log", row(some()...))
	refused(t, small, l, ends(1), api.ErrFull)
}

// tails are ends that are to be cut off behind good frames.
func tails() [][]byte {
	return [][]byte{{1}, row(ends(9))[:16], make([]byte, 40), whole(nil), slices.Concat(whole([]byte{9}), row(ends(8), ends(9)))}
}

// A halted disk cuts nothing off: the log is told all the same, and the file is as it was.
func TestOpenOnAHaltedDisk(t *testing.T) {
	for _, tail := range tails() {
		d := with(t, append(row(some()...), tail...))
		d.Halt(0)
		was := looks(d)
		l := holds(t, d, "a", some()...)
		if looks(d) != was {
			t.Error("the disk is another one now")
		}
		refused(t, d, l, ends(1), api.ErrFull)
		holds(t, d, "a", some()...)
		d.Crash(0)
		holds(t, d, "a", some()...)
		has(t, d, "a.log", row(some()...))
	}
}

// Such a log goes on where it is: what is appended to it behind a crash lasts.
func TestOpenOnAHaltedDiskThatGoesOn(t *testing.T) {
	for _, on := range []func(d *disk.Disk){
		func(d *disk.Disk) { d.Crash(0) },
		func(d *disk.Disk) { d.Crash(1000) },
		func(d *disk.Disk) { d.Halt(-1) },
		func(d *disk.Disk) { d.Halt(5) },
	} {
		for _, tail := range tails() {
			d := with(t, append(row(some()...), tail...))
			d.Halt(0)
			l := holds(t, d, "a", some()...)
			on(d)
			appended(t, l, ends(1), ends(2))
			has(t, d, "a.log", row(append(some(), ends(1), ends(2))...))
			d.Crash(0)
			holds(t, d, "a", append(some(), ends(1), ends(2))...)
		}
	}
}

// The one call that Open takes may be the last one; where nothing is to be cut off, it takes none.
func TestOpenThatHalts(t *testing.T) {
	d := with(t, append(row(some()...), 1))
	d.Halt(1)
	l := holds(t, d, "a", some()...)
	if !d.Halted() {
		t.Error("it is not halted")
	}
	has(t, d, "a.log", row(some()...))
	refused(t, d, l, ends(1), api.ErrFull)

	d = with(t, row(some()...))
	d.Halt(1)
	holds(t, d, "a", some()...)
	if d.Halted() {
		t.Error("it is halted")
	}
}

// What stands in the file is told, whether it lasts or not; Open makes nothing last.
func TestOpenOfWhatDoesNotLast(t *testing.T) {
	d := with(t, row(ends(1)))
	d.Append("a.log", row(ends(2)))
	if used := took(d, func() { holds(t, d, "a", ends(1), ends(2)) }); used != 0 {
		t.Errorf("Open took %d calls", used)
	}
	d.Crash(0)
	holds(t, d, "a", ends(1))
}

// What is appended makes all last that stands ahead of it.
func TestAppendBehindWhatDoesNotLast(t *testing.T) {
	d := with(t, row(ends(1)))
	d.Append("a.log", append(row(ends(2)), 1, 2))
	l := holds(t, d, "a", ends(1), ends(2))
	appended(t, l, ends(3))
	d.Crash(0)
	holds(t, d, "a", ends(1), ends(2), ends(3))
}

// A file may have more entries than are ever appended.
func TestOpenOfMoreThanFit(t *testing.T) {
	for _, many := range []int{most - 1, most, most + 1, most + 50} {
		var all []api.Entry
		for i := range many {
			all = append(all, ends(uint32(i)))
		}
		d := with(t, append(row(all...), 1))
		l := holds(t, d, "a", all...)
		has(t, d, "a.log", row(all...))
		if many < most {
			appended(t, l, ends(0))
		}
		refused(t, d, l, ends(1), api.ErrLimit)
	}
}
