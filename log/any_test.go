package log_test

import (
	"math/rand"
	"slices"
	"testing"

	"conciliator/api"
	"conciliator/disk"
	"conciliator/log"
)

// part is some bytes by chance, such as may stand in a file: good frames, others, and pieces of them.
func part(r *rand.Rand) []byte {
	switch r.Intn(10) {
	case 0:
		b := make([]byte, r.Intn(20))
		r.Read(b)
		return b
	case 1:
		all := broken()
		return all[r.Intn(len(all))]
	case 2:
		b := row(many(r, 2)...)
		return b[:r.Intn(len(b))]
	case 3:
		b := make([]byte, r.Intn(20))
		r.Read(b)
		return whole(b)
	}
	return row(many(r, 2)...)
}

// No bytes make Open panic; it ends, and what it tells is what the words say.
func TestAnyBytes(t *testing.T) {
	r := rand.New(rand.NewSource(41))
	for range 500 {
		var b []byte
		for range r.Intn(6) {
			b = append(b, part(r)...)
		}
		held(t, b[:min(len(b), mostRoom-1000)])
	}
}

// world is a disk with logs on it, and what is known of them: what was acknowledged, and what was being laid down.
type world struct {
	t     *testing.T
	r     *rand.Rand
	d     *disk.Disk
	names []string
	logs  map[string]*log.Log
	acked map[string][]api.Entry
	more  map[string][]api.Entry // of which one may be there, behind what was acknowledged
}

func newWorld(t *testing.T, r *rand.Rand) *world {
	t.Helper()
	w := &world{t: t, r: r, d: disk.New(500 + r.Intn(4000)), names: []string{"a", "b", "a.log"},
		logs: map[string]*log.Log{}, acked: map[string][]api.Entry{}, more: map[string][]api.Entry{}}
	for _, n := range w.names {
		w.open(n)
	}
	return w
}

// open opens a log anew; what it tells is known of it from then on.
func (w *world) open(n string) {
	w.t.Helper()
	l, all := opened(w.t, w.d, n)
	acked := w.acked[n]
	one := len(all) == len(acked)+1 && alike(all[:len(acked)], acked) &&
		slices.ContainsFunc(w.more[n], func(e api.Entry) bool { return alike([]api.Entry{e}, all[len(acked):]) })
	if !alike(all, acked) && !one {
		w.t.Errorf("%q: Open are %d entries, of %d that were acknowledged: %s, want %s", n, len(all), len(acked), tell(all), tell(acked))
	}
	w.logs[n], w.acked[n], w.more[n] = l, all, nil
}

// append appends to a log, and says that Len is how many were acknowledged.
func (w *world) append(n string, e api.Entry) {
	w.t.Helper()
	halted := w.d.Halted()
	switch f := w.logs[n].Append(e); f {
	case api.OK:
		w.acked[n], w.more[n] = append(w.acked[n], e), nil
	case api.ErrFull:
		if !halted && w.d.Halted() {
			w.more[n] = append(w.more[n], e)
		}
	default:
		w.t.Errorf("Append is %d", f)
	}
	if w.logs[n].Len() != len(w.acked[n]) {
		w.t.Errorf("%q: Len is %d, of %d that were acknowledged", n, w.logs[n].Len(), len(w.acked[n]))
	}
}

// crash crashes the disk; then all logs are opened anew, or go on.
func (w *world) crash(keep int) {
	w.t.Helper()
	w.d.Crash(keep)
	if w.r.Intn(2) == 0 {
		return
	}
	for _, n := range w.names {
		w.open(n)
	}
}

func (w *world) step() {
	w.t.Helper()
	n := w.names[w.r.Intn(len(w.names))]
	switch w.r.Intn(16) {
	case 0:
		w.crash(odd()[w.r.Intn(len(odd()))])
	case 1:
		w.crash(w.r.Intn(60))
	case 2:
		w.d.Halt(w.r.Intn(8) - 1)
	case 3:
		w.d.Full(w.r.Intn(3) == 0)
	case 4:
		// What was being laid down may stand in the file, and not last: a crash comes ahead of Open then.
		if len(w.more[n]) == 0 {
			w.open(n)
		}
	case 5:
		if f := w.logs[n].Append(create(txt("\xff"))); f != api.ErrArg {
			w.t.Errorf("Append is %d", f)
		}
	default:
		w.append(n, many(w.r, 1)[0])
	}
}

// Whatever is done, in whatever order, also where the disk goes on without a crash: what was acknowledged is there.
func TestAnySteps(t *testing.T) {
	for seed := range int64(300) {
		w := newWorld(t, rand.New(rand.NewSource(seed)))
		for range 100 {
			w.step()
			if t.Failed() {
				t.Fatalf("seed %d", seed)
			}
		}
		w.d.Crash(0)
		for _, n := range w.names {
			w.open(n)
		}
	}
}

// Whatever comes of the file meanwhile: no call panics, each ends, and Append goes on behind what is there.
func TestAnyStepsOfOthers(t *testing.T) {
	for seed := range int64(200) {
		r := rand.New(rand.NewSource(seed))
		d := disk.New(3000)
		l, _ := opened(t, d, "a")
		for range 60 {
			switch r.Intn(8) {
			case 0:
				d.Append("a.log", part(r))
			case 1:
				d.Cut("a.log", r.Intn(40))
			case 2:
				d.Drop("a.log")
			case 3:
				d.Halt(r.Intn(5) - 1)
			case 4:
				d.Crash(r.Intn(30))
			case 5:
				opened(t, d, "a")
			default:
				n := l.Len()
				f := l.Append(ends(uint32(n)))
				b, _ := d.Read("a.log")
				if f == api.OK && (l.Len() != n+1 || len(b) < 17) || f != api.OK && l.Len() != n || f != api.OK && f != api.ErrFull {
					t.Fatalf("seed %d: Append is %d, Len %d behind %d", seed, f, l.Len(), n)
				}
				if f == api.OK && string(b[len(b)-17:]) != string(row(ends(uint32(n)))) {
					t.Fatalf("seed %d: the file ends with % x", seed, b[len(b)-17:])
				}
			}
		}
	}
}

func FuzzOpen(f *testing.F) {
	f.Add([]byte(nil))
	f.Add(row(some()...))
	f.Add(append(row(some()...), 1, 2, 3))
	f.Add(slices.Concat(row(ends(1)), whole([]byte{9}), row(ends(2))))
	f.Fuzz(func(t *testing.T, b []byte) {
		held(t, b[:min(len(b), mostRoom-1000)])
		held(t, slices.Concat(row(ends(1)), whole(b[:min(len(b), mostBytes)]), row(ends(2))))
	})
}
