package disk_test

import (
	"bytes"
	"math/rand"
	"slices"
	"strings"
	"testing"
	"unsafe"

	"conciliator/api"
	"conciliator/disk"
)

// overlap says whether two pieces of memory have a byte that is both's.
func overlap(a *byte, many int, b *byte, more int) bool {
	if many == 0 || more == 0 {
		return false
	}
	from, other := uintptr(unsafe.Pointer(a)), uintptr(unsafe.Pointer(b))
	return from < other+uintptr(more) && other < from+uintptr(many)
}

// share says whether two lists share memory, behind their lengths too.
func share(a, b []byte) bool {
	return overlap(unsafe.SliceData(a), cap(a), unsafe.SliceData(b), cap(b))
}

// shareText says whether two texts share memory.
func shareText(a, b string) bool {
	return overlap(unsafe.StringData(a), len(a), unsafe.StringData(b), len(b))
}

// fill makes all bytes of a list others, behind its length too.
func fill(b []byte) {
	b = b[:cap(b)]
	for i := range b {
		b[i] ^= 0x55
	}
}

func TestNothingIsChanged(t *testing.T) {
	d := disk.New(1000)
	r := rand.New(rand.NewSource(1))
	for many := range 40 {
		all := chance(r, many+20)
		was := slices.Clone(all)
		d.Append("a", all[:many])
		d.Append("b", all[:many])
		d.Append("b", all[many:many])
		d.Append("a", []byte("behind"))
		d.Sync("a")
		d.Cut("a", many/2)
		d.Crash(0)
		d.Append("a", []byte("over it"))
		if !bytes.Equal(all, was) {
			t.Fatalf("% x is changed to % x", was, all)
		}
	}
}

// What comes to be of bytes that were handed in is not seen on the disk, whether they were its first ones or not.
func TestNothingHandedInIsKept(t *testing.T) {
	b := fresh(t, 1000)
	x := append(make([]byte, 0, 50), "abc"...)
	b.append("a", x, api.OK)
	b.append("b", x, api.OK)
	b.append("a", x, api.OK)
	fill(x)
	b.has("a", "abcabc")
	b.has("b", "abc")
	b.hold()
	for _, n := range []string{"a", "b"} {
		got, _ := b.d.Read(n)
		if share(got, x) {
			t.Errorf("%s shares memory with what was handed in", n)
		}
	}
}

// What lies behind the length of bytes that were handed in is never read.
func TestBehindTheLength(t *testing.T) {
	b := fresh(t, 5)
	x := []byte("abcSECRET")
	b.append("a", x[:3], api.OK)
	b.append("b", x[:0], api.OK)
	b.has("a", "abc")
	b.has("b", "")
	b.append("a", []byte("d"), api.OK)
	b.has("a", "abcd")
	if string(x) != "abcSECRET" {
		t.Errorf("it is %q now", x)
	}
}

// A name that was handed in is not kept: where its memory changes, the file's name does not.
func TestNoNameIsKept(t *testing.T) {
	b := fresh(t, 100)
	letters := []byte("name")
	handed := unsafe.String(unsafe.SliceData(letters), len(letters))
	b.d.Append(handed, []byte("x"))
	for _, n := range b.d.Names() {
		if shareText(n, handed) {
			t.Error("the name that was handed in is handed out")
		}
	}
	copy(letters, "else")
	if got := b.d.Names(); !slices.Equal(got, []string{"name"}) {
		t.Errorf("Names are %q", got)
	}
	b.has("name", "x")
	b.none("else")
}

func TestReadIsNewMemory(t *testing.T) {
	b := fresh(t, 1000)
	r := rand.New(rand.NewSource(2))
	for range 20 {
		b.append("a", chance(r, 1+r.Intn(9)), api.OK)
		was, _ := b.d.Read("a")
		one, _ := b.d.Read("a")
		two, _ := b.d.Read("a")
		if share(one, two) || share(one, was) {
			t.Fatal("two answers share memory")
		}
		fill(one)
		if !bytes.Equal(two, was) {
			t.Fatal("an answer is seen in another one")
		}
		b.hold()
		// What is laid behind an answer is not laid down.
		_ = append(two, "over"...)
		b.append("a", []byte("x"), api.OK)
		_ = append(two, "over"...)
		b.hold()
	}
}

// What was read stays as it was, whatever is done to the file.
func TestWhatWasReadStays(t *testing.T) {
	b := fresh(t, 100)
	b.lay("a", "abcdef", true)
	got, _ := b.d.Read("a")
	b.cut("a", 2, api.OK)
	b.append("a", []byte("XYZ"), api.OK)
	b.crash(0)
	b.append("a", []byte("12345678"), api.OK)
	b.drop("a", api.OK)
	if string(got) != "abcdef" {
		t.Errorf("it is %q now", got)
	}
}

// What was cut off, or lost, does not lie behind what is read.
func TestNothingLiesBehindWhatIsRead(t *testing.T) {
	b := fresh(t, 1000)
	behind := func() {
		t.Helper()
		got, _ := b.d.Read("a")
		rest := got[len(got):cap(got)]
		if !bytes.Equal(rest, make([]byte, len(rest))) {
			t.Errorf("behind what was read lies % x", rest)
		}
	}
	for many := range 40 {
		b.append("a", bytes.Repeat([]byte{0xff}, 2*many), api.OK)
		behind()
		b.cut("a", many, api.OK)
		behind()
		b.append("a", bytes.Repeat([]byte{0xee}, many), api.OK)
		b.crash(many / 2)
		behind()
		b.cut("a", 0, api.OK)
		behind()
	}
}

func TestNamesAreNewMemory(t *testing.T) {
	b := fresh(t, 100)
	for _, n := range []string{"b", "a", "c"} {
		b.append(n, nil, api.OK)
	}
	one, two := b.d.Names(), b.d.Names()
	for i, n := range one {
		for _, m := range two {
			if shareText(n, m) {
				t.Error("two answers share a name's memory")
			}
		}
		one[i] = strings.ToUpper(n)
	}
	_ = append(one[:1], "over", "it")
	if !slices.Equal(two, []string{"a", "b", "c"}) {
		t.Errorf("another answer is %q now", two)
	}
	b.hold()
}

// Two disks know nothing of one another, also where one is laid down with what the other one tells.
func TestTwoDisks(t *testing.T) {
	a, b := fresh(t, 100), fresh(t, 10)
	a.lay("a", "abc", true)
	b.none("a")
	x, _ := a.d.Read("a")
	b.append(a.d.Names()[0], x, api.OK)
	a.append("a", []byte("def"), api.OK)
	b.append("a", []byte("xyz"), api.OK)
	b.append("b", []byte("12345"), api.ErrFull)
	a.has("a", "abcdef")
	b.has("a", "abcxyz")

	a.full(true)
	b.append("b", []byte("1"), api.OK)
	a.halt(1)
	for range 5 {
		b.sync("b", api.OK)
	}
	a.sync("z", api.ErrFile)
	a.halted()
	b.append("b", []byte("2"), api.OK)
	b.full(true)
	b.halt(2)
	b.crash(1)
	a.halted()
	a.hold()
	a.crash(0)
	b.hold()
	a.drop("a", api.OK)
	b.has("a", "a")
	b.cut("a", 0, api.OK)
	a.none("a")
}
