package disk_test

import (
	"testing"

	"conciliator/api"
)

// The chapter's example.
func TestExample(t *testing.T) {
	b := fresh(t, 100)
	b.append("a", []byte{1, 2}, api.OK)
	b.sync("a", api.OK)
	b.append("a", []byte{3, 4, 5}, api.OK)
	b.crash(1)
	b.has("a", "\x01\x02\x03")
}

func TestAppendStandsAtTheEnd(t *testing.T) {
	b := fresh(t, 100)
	b.append("a", []byte("ab"), api.OK)
	b.has("a", "ab")
	b.append("a", []byte("c"), api.OK)
	b.has("a", "abc")
	b.append("b", []byte("x"), api.OK)
	b.append("a", []byte("de"), api.OK)
	b.has("a", "abcde")
	b.has("b", "x")
	b.sync("a", api.OK)
	b.append("a", []byte("ab"), api.OK)
	b.has("a", "abcdeab")
}

func TestAppendOfNothing(t *testing.T) {
	b := fresh(t, 3)
	b.append("a", nil, api.OK)
	b.has("a", "")
	b.append("b", []byte{}, api.OK)
	b.has("b", "")
	b.append("a", []byte("abc"), api.OK)
	b.append("a", nil, api.OK)
	b.append("c", []byte("abc")[:0], api.OK)
	b.has("a", "abc")
	b.has("c", "")
}

func TestAppendToJustTheRoom(t *testing.T) {
	b := fresh(t, 10)
	b.append("a", []byte("abcd"), api.OK)
	b.append("b", []byte("abcdefg"), api.ErrFull)
	b.none("b")
	b.append("a", []byte("efghijk"), api.ErrFull)
	b.has("a", "abcd")
	b.append("b", []byte("abcdef"), api.OK)
	b.append("b", []byte("g"), api.ErrFull)
	b.append("a", []byte("e"), api.ErrFull)
	b.append("c", []byte("e"), api.ErrFull)
	b.append("a", nil, api.OK)
	b.append("c", nil, api.OK)
	if b.d.Used() != 10 {
		t.Errorf("Used is %d", b.d.Used())
	}
}

// Where a file is cut, is dropped, or loses some, there is room again, and no more than that.
func TestAppendToRoomThatIsThereAgain(t *testing.T) {
	b := fresh(t, 10)
	b.lay("a", "abcde", true)
	b.lay("b", "fghij", false)
	b.append("a", []byte("x"), api.ErrFull)
	b.cut("a", 3, api.OK)
	b.append("b", []byte("xyz"), api.ErrFull)
	b.append("b", []byte("xy"), api.OK)
	b.drop("a", api.OK)
	b.append("c", []byte("1234"), api.ErrFull)
	b.append("c", []byte("123"), api.OK)
	b.crash(1)
	b.append("a", []byte("123456789"), api.ErrFull)
	b.append("a", []byte("12345678"), api.OK)
	b.append("a", []byte("9"), api.ErrFull)
}

func TestAppendToAFullDisk(t *testing.T) {
	b := fresh(t, 10)
	b.lay("a", "ab", false)
	b.full(true)
	for _, x := range []string{"", "c", "cdefghij", "cdefghijk"} {
		b.append("a", []byte(x), api.ErrFull)
		b.append("b", []byte(x), api.ErrFull)
		b.append("", []byte(x), api.ErrFull)
	}
	b.append("a", nil, api.ErrFull)
	b.full(true)
	b.append("a", nil, api.ErrFull)
	b.has("a", "ab")
	b.none("b")
	b.full(false)
	b.append("a", []byte("c"), api.OK)
	b.append("b", nil, api.OK)
	b.full(false)
	b.append("b", nil, api.OK)
}

// many lays so many files, of one byte each.
func (b both) many(files int) {
	b.t.Helper()
	for i := range files {
		b.append(numbered(i), []byte{byte(i)}, api.OK)
	}
}

func TestAppendToTheLastFileThatFits(t *testing.T) {
	b := fresh(t, 1000)
	b.many(mostFiles)
	if len(b.d.Names()) != 64 {
		t.Fatalf("there are %d files", len(b.d.Names()))
	}
	b.append("more", nil, api.ErrFull)
	b.append("more", []byte{1}, api.ErrFull)
	b.none("more")
	for i := range mostFiles {
		b.append(numbered(i), []byte{2}, api.OK)
		b.append(numbered(i), nil, api.OK)
		b.has(numbered(i), string([]byte{byte(i), 2}))
	}
}

// A file that is gone leaves its place to another one; one that is empty has its place, too.
func TestAppendToAnotherFileBehindOneThatIsGone(t *testing.T) {
	b := fresh(t, 1000)
	b.many(mostFiles)
	b.cut(numbered(0), 0, api.OK)
	b.append("more", nil, api.ErrFull)
	b.crash(0)
	b.append("more", nil, api.ErrFull)
	b.drop(numbered(7), api.OK)
	b.append("more", []byte("m"), api.OK)
	b.append(numbered(7), nil, api.ErrFull)
	b.append("more", []byte("n"), api.OK)
	b.has("more", "mn")
}

func TestAppendToNames(t *testing.T) {
	b := fresh(t, 100)
	for _, many := range []int{0, mostName + 1, mostName + 2, 255, 256, 286, mostRoom} {
		b.append(name(many), nil, api.ErrFull)
		b.append(name(many), []byte("x"), api.ErrFull)
		b.none(name(many))
	}
	for many := 1; many <= mostName; many++ {
		b.append(name(many), []byte{byte(many)}, api.OK)
		b.append(name(many), []byte{byte(many)}, api.OK)
		b.has(name(many), string([]byte{byte(many), byte(many)}))
	}
}

// A name's bytes are counted, not its characters, and may be any.
func TestAppendToNamesOfAnyBytes(t *testing.T) {
	b := fresh(t, 100)
	long := name(26)
	for _, n := range []string{"\x00", "\xff", "\n", " ", "/", "..", "a.log", "\u00e9", long + "\u00e9\u00e9", "\xff\xfe" + name(28), "\u20ac\u20ac"} {
		b.append(n, []byte(n[:1]), api.OK)
		b.has(n, n[:1])
	}
	for _, n := range []string{long + "\u00e9\u00e9a", long + "a\u00e9\u00e9", "\xff\xfe" + name(29), "\u20ac\u20ac\u20ac\u20ac\u20ac\u20ac\u20ac\u20ac\u20ac\u20aca"} {
		b.append(n, nil, api.ErrFull)
	}
}

// What is refused leaves all as it was, and what lasts, too.
func TestAppendThatIsRefused(t *testing.T) {
	b := fresh(t, 5)
	b.lay("a", "ab", true)
	b.append("a", []byte("cdef"), api.ErrFull)
	b.append("b", []byte("cdef"), api.ErrFull)
	b.append("", []byte("c"), api.ErrFull)
	b.append("a", []byte("c"), api.OK)
	b.append("a", []byte("def"), api.ErrFull)
	b.crash(0)
	b.has("a", "ab")
	b.none("b")
}

// What is laid down does not last ahead of the next Sync.
func TestAppendDoesNotLast(t *testing.T) {
	b := fresh(t, 100)
	b.lay("a", "ab", true)
	b.lay("a", "cd", false)
	b.lay("b", "ef", false)
	b.crash(0)
	b.has("a", "ab")
	b.has("b", "")
}
