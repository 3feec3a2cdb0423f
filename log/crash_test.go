package log_test

import (
	"math/rand"
	"testing"

	"conciliator/api"
	"conciliator/disk"
)

// begun is a log of a file a.log, on a disk of its own, with these entries.
func begun(t *testing.T, all ...api.Entry) *disk.Disk {
	t.Helper()
	d := fresh()
	l, _ := opened(t, d, "a")
	appended(t, l, all...)
	return d
}

// again says that Open behind a crash is the same when done again, and changes nothing then.
func again(t *testing.T, d *disk.Disk, want ...api.Entry) {
	t.Helper()
	holds(t, d, "a", want...)
	was := looks(d)
	for range 2 {
		if used := took(d, func() { holds(t, d, "a", want...) }); used != 0 {
			t.Errorf("Open took %d calls", used)
		}
	}
	d.Crash(0)
	holds(t, d, "a", want...)
	if looks(d) != was {
		t.Error("the disk is another one now")
	}
}

// Where Append says OK, the entry lasts, whatever a crash keeps, and however often there is one.
func TestWhatWasAppendedLasts(t *testing.T) {
	for _, keep := range odd() {
		d := fresh()
		for i := range some() {
			l := holds(t, d, "a", some()[:i]...)
			appended(t, l, some()[i])
			d.Crash(keep)
			has(t, d, "a.log", row(some()[:i+1]...))
		}
		again(t, d, some()...)
	}
}

// What a log has lasts also where it goes on behind the crash itself.
func TestWhatWasAppendedLastsInALogThatGoesOn(t *testing.T) {
	for _, keep := range odd() {
		d := fresh()
		l, _ := opened(t, d, "a")
		for i, e := range some() {
			appended(t, l, e)
			d.Crash(keep)
			if l.Len() != i+1 {
				t.Errorf("Len is %d", l.Len())
			}
		}
		again(t, d, some()...)
	}
}

// halts appends entries to a disk that is halted behind some calls, and crashes it: the first half of these calls are
// as many entries that were acknowledged; one more was being laid down, if there is a call left, and is there if all
// of it was kept.
func halts(t *testing.T, calls, keep int) {
	t.Helper()
	all := some()
	d := begun(t, all[0], all[1])
	l := holds(t, d, "a", all[:2]...)
	d.Halt(calls)
	acknowledged := 2
	for _, e := range all[2:] {
		switch l.Append(e) {
		case api.OK:
			acknowledged++
		case api.ErrFull:
		default:
			t.Fatal("Append is another error")
		}
	}
	if want := min(2+calls/2, len(all)); acknowledged != want || l.Len() != want {
		t.Fatalf("%d calls: %d are acknowledged, Len is %d, want %d", calls, acknowledged, l.Len(), want)
	}
	d.Crash(keep)
	there := acknowledged
	if there < len(all) && calls%2 == 1 && keep >= len(row(all[there])) {
		there++
	}
	again(t, d, all[:there]...)
	has(t, d, "a.log", row(all[:there]...))
	l = holds(t, d, "a", all[:there]...)
	appended(t, l, ends(70), ends(71))
	d.Crash(0)
	again(t, d, append(all[:there:there], ends(70), ends(71))...)
}

func TestHaltBehindEachNumberOfCalls(t *testing.T) {
	for calls := range 2*len(some()) + 2 {
		for _, keep := range odd() {
			halts(t, calls, keep)
		}
		if calls%2 == 1 && 2+calls/2 < len(some()) {
			long := len(row(some()[2+calls/2]))
			for keep := range long + 2 {
				halts(t, calls, keep)
			}
		}
	}
}

// Open itself may be halted while it cuts, and may be crashed behind that.
func TestCrashBehindAnOpenThatIsHalted(t *testing.T) {
	for _, tail := range tails() {
		for calls := range 3 {
			for _, keep := range odd() {
				d := with(t, append(row(some()...), tail...))
				d.Append("a.log", []byte("that does not last"))
				d.Halt(calls)
				holds(t, d, "a", some()...)
				d.Crash(keep)
				again(t, d, some()...)
			}
		}
	}
}

// A first entry that is not there leaves a file of no bytes, or none of which anything is told.
func TestCrashOfTheFirstEntry(t *testing.T) {
	for keep := range 20 {
		d := fresh()
		l, _ := opened(t, d, "a")
		d.Halt(1)
		l.Append(ends(1))
		d.Crash(keep)
		if keep < 17 {
			again(t, d)
			has(t, d, "a.log", nil)
		} else {
			again(t, d, ends(1))
		}
	}
}

// Crash behind crash, at any time: all that was acknowledged is there, in its order; one more at most, whole.
func TestManyCrashes(t *testing.T) {
	for seed := range int64(200) {
		r := rand.New(rand.NewSource(seed))
		d := disk.New(2000 + r.Intn(3000))
		var want []api.Entry
		for range 12 {
			l := holds(t, d, "a", want...)
			d.Halt(r.Intn(9))
			var more []api.Entry
			for _, e := range many(r, 5) {
				d.Full(r.Intn(6) == 0)
				if l.Append(e) == api.OK {
					want = append(want, e)
				} else if d.Halted() && more == nil {
					more = append(more, e)
				}
			}
			d.Crash(r.Intn(400) - 20)
			_, all := opened(t, d, "a")
			if len(all) == len(want)+1 {
				want = append(want, more...)
			}
			again(t, d, want...)
			if t.Failed() {
				t.Fatalf("seed %d", seed)
			}
		}
	}
}

// Two logs on one disk know nothing of one another.
func TestTwoLogs(t *testing.T) {
	d := fresh()
	a, _ := opened(t, d, "a")
	b, _ := opened(t, d, "b")
	appended(t, a, ends(1), ends(2))
	holds(t, d, "b")
	appended(t, b, ends(3))
	appended(t, a, ends(4))
	appended(t, b, ends(5))
	if a.Len() != 3 || b.Len() != 2 {
		t.Errorf("Len is %d, %d", a.Len(), b.Len())
	}
	// What is cut off one is not cut off the other.
	d.Append("a.log", []byte{1, 2})
	d.Append("b.log", []byte{1, 2, 3})
	holds(t, d, "a", ends(1), ends(2), ends(4))
	has(t, d, "a.log", row(ends(1), ends(2), ends(4)))
	has(t, d, "b.log", append(row(ends(3), ends(5)), 1, 2, 3))
	holds(t, d, "b", ends(3), ends(5))

	// The disk is halted while one is laid down: the other one goes on behind the crash as if nothing had been.
	d.Halt(3)
	appended(t, a, ends(6))
	if f := b.Append(ends(7)); f != api.ErrFull {
		t.Errorf("Append is %d", f)
	}
	refused(t, d, a, ends(8), api.ErrFull)
	d.Crash(5)
	if used := took(d, func() { appended(t, a, ends(9)) }); used != 2 {
		t.Errorf("Append took %d calls", used)
	}
	has(t, d, "b.log", append(row(ends(3), ends(5)), row(ends(7))[:5]...))
	appended(t, b, ends(10))
	d.Crash(0)
	holds(t, d, "a", ends(1), ends(2), ends(4), ends(6), ends(9))
	holds(t, d, "b", ends(3), ends(5), ends(10))
}

// So do logs of the same name on two disks.
func TestTwoDisks(t *testing.T) {
	d, c := fresh(), fresh()
	a, _ := opened(t, d, "a")
	b, _ := opened(t, c, "a")
	appended(t, a, ends(1))
	holds(t, c, "a")
	d.Halt(0)
	c.Full(true)
	refused(t, d, a, ends(2), api.ErrFull)
	c.Full(false)
	appended(t, b, ends(3), ends(4))
	holds(t, d, "a", ends(1))
	holds(t, c, "a", ends(3), ends(4))
}

// Logs of all the files that a disk has, of which one is laid down behind the other.
func TestManyLogs(t *testing.T) {
	d := fresh()
	var names []string
	for i := range mostFiles {
		names = append(names, name(i%16)+string(rune('A'+i/16)))
	}
	for round := range 3 {
		for i, n := range names {
			var want []api.Entry
			for k := range round {
				want = append(want, ends(uint32(100*k+i)))
			}
			l := holds(t, d, n, want...)
			appended(t, l, ends(uint32(100*round+i)))
		}
		d.Crash(round)
	}
	for i, n := range names {
		holds(t, d, n, ends(uint32(i)), ends(uint32(100+i)), ends(uint32(200+i)))
	}
	if len(d.Names()) != mostFiles {
		t.Errorf("there are %d files", len(d.Names()))
	}
}
