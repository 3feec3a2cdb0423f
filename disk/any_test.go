package disk_test

import (
	"math/rand"
	"testing"

	"conciliator/api"
)

// anyName is one by chance: of few, so that they meet, of such as no file is to have, or of many.
func anyName(r *rand.Rand) string {
	switch r.Intn(8) {
	case 0:
		n := wrong()
		return n[r.Intn(len(n))]
	case 1:
		return numbered(r.Intn(80))
	}
	return "abcd"[r.Intn(4):][:1]
}

// anyNumber is one of about so many by chance, now and then an odd one.
func anyNumber(r *rand.Rand, about int) int {
	if r.Intn(8) == 0 {
		return odd()[r.Intn(len(odd()))]
	}
	return r.Intn(about+4) - 2
}

// same says that a call's error is the one that the words say; what else it did is held by those who ask.
func (b both) same(call, name string, got, want api.Errno) {
	b.t.Helper()
	if got != want {
		b.t.Errorf("%s(%q) is %d, want %d", call, name, got, want)
	}
}

// step does one thing by chance.
func (b both) step(r *rand.Rand) {
	b.t.Helper()
	n := anyName(r)
	switch r.Intn(24) {
	case 0:
		b.full(r.Intn(4) == 0)
	case 1:
		b.halt(anyNumber(r, 20))
	case 2:
		b.crash(anyNumber(r, 10))
	case 3, 4:
		b.same("Drop", n, b.d.Drop(n), b.p.drop(n))
	case 5, 6, 7, 8:
		i := anyNumber(r, 12)
		b.same("Cut", n, b.d.Cut(n, i), b.p.cut(n, i))
	case 9, 10, 11, 12:
		b.same("Sync", n, b.d.Sync(n), b.p.sync(n))
	case 13:
		x := make([]byte, r.Intn(200))
		b.same("Append", n, b.d.Append(n, x), b.p.append(n, x))
	default:
		x := chance(r, r.Intn(9))
		b.same("Append", n, b.d.Append(n, x), b.p.append(n, x))
	}
	b.hold()
}

// Whatever is asked, in whatever order: no call panics, each ends, and all is as the words say.
func TestAnySteps(t *testing.T) {
	for seed := range int64(300) {
		r := rand.New(rand.NewSource(seed))
		b := fresh(t, r.Intn(300))
		for range 200 {
			b.step(r)
			if t.Failed() {
				t.Fatalf("seed %d", seed)
			}
		}
	}
}

// So many files that no more fit, and bytes that all but fill the disk.
func TestAnyStepsOfAFilledDisk(t *testing.T) {
	for seed := range int64(30) {
		r := rand.New(rand.NewSource(seed))
		b := fresh(t, 400)
		b.many(mostFiles - r.Intn(3))
		for range 300 {
			b.step(r)
			if t.Failed() {
				t.Fatalf("seed %d", seed)
			}
		}
	}
}

// On a disk as great as any, files that have all of it.
func TestGreatest(t *testing.T) {
	b := fresh(t, mostRoom)
	x := chance(rand.New(rand.NewSource(5)), mostRoom/2)
	b.append("a", x, api.OK)
	b.append("b", x[1:], api.OK)
	b.append("b", x[:2], api.ErrFull)
	b.append("a", x[:1], api.OK)
	b.append("a", x[:1], api.ErrFull)
	b.append("a", x, api.ErrFull)
	b.sync("a", api.OK)
	b.crash(mostRoom/2 - 2)
	b.append("b", x[:2], api.ErrFull)
	b.append("b", x[:1], api.OK)
	b.cut("a", mostRoom/2+1, api.OK)
	b.cut("a", 1, api.OK)
	b.append("c", x, api.OK)
	b.drop("b", api.OK)
	b.append("d", x[:mostRoom/2], api.ErrFull)
	b.append("d", x[:mostRoom/2-1], api.OK)
}

func FuzzDisk(f *testing.F) {
	f.Add(int64(1), 100)
	f.Add(int64(2), 0)
	f.Add(int64(3), mostRoom)
	f.Fuzz(func(t *testing.T, seed int64, room int) {
		if room < 0 || room > mostRoom {
			return
		}
		r := rand.New(rand.NewSource(seed))
		b := fresh(t, room)
		for range 100 {
			b.step(r)
		}
	})
}
