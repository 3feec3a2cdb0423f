package disk_test

import (
	"bytes"
	"math"
	"math/rand"
	"slices"
	"strings"
	"testing"

	"conciliator/api"
	"conciliator/disk"
)

// The chapter's numbers.
const (
	mostRoom  = 1 << 20
	mostFiles = 64
	mostName  = 30
)

// plainByte is one of a file's, plainFile a file, and plain a disk as the chapter's words tell it, to be held
// against what is built: files stand in a list, each byte says for itself whether it lasts, and a Halt is open or not.
type plainByte struct {
	b     byte
	lasts bool
}

type plainFile struct {
	name string
	has  []plainByte
}

type plain struct {
	room  int
	files []plainFile
	full  bool
	open  bool
	calls uint64
}

func (p *plain) at(name string) int {
	return slices.IndexFunc(p.files, func(f plainFile) bool { return f.name == name })
}

func (p *plain) halted() bool { return p.open && p.calls == 0 }

// counts counts a call, and says whether it is done.
func (p *plain) counts() bool {
	if p.halted() {
		return false
	}
	if p.open {
		p.calls--
	}
	return true
}

func (p *plain) used() int {
	n := 0
	for _, f := range p.files {
		n += len(f.has)
	}
	return n
}

func (p *plain) append(name string, b []byte) api.Errno {
	if !p.counts() || p.full || p.used()+len(b) > p.room {
		return api.ErrFull
	}
	i := p.at(name)
	if i < 0 {
		if len(p.files) == mostFiles || len(name) == 0 || len(name) > mostName {
			return api.ErrFull
		}
		i = len(p.files)
		p.files = append(p.files, plainFile{name: name})
	}
	for _, x := range b {
		p.files[i].has = append(p.files[i].has, plainByte{b: x})
	}
	return api.OK
}

func (p *plain) sync(name string) api.Errno {
	if !p.counts() {
		return api.ErrFull
	}
	i := p.at(name)
	if i < 0 {
		return api.ErrFile
	}
	for j := range p.files[i].has {
		p.files[i].has[j].lasts = true
	}
	return api.OK
}

func (p *plain) cut(name string, n int) api.Errno {
	if !p.counts() {
		return api.ErrFull
	}
	i := p.at(name)
	if i < 0 {
		return api.ErrFile
	}
	if n < 0 || n > len(p.files[i].has) {
		return api.ErrArg
	}
	p.files[i].has = p.files[i].has[:n]
	return api.OK
}

func (p *plain) drop(name string) api.Errno {
	if !p.counts() {
		return api.ErrFull
	}
	i := p.at(name)
	if i < 0 {
		return api.ErrFile
	}
	p.files = slices.Delete(p.files, i, i+1)
	return api.OK
}

func (p *plain) halt(calls int) {
	p.open = calls >= 0
	p.calls = uint64(max(calls, 0))
}

func (p *plain) crash(keep int) {
	for i, f := range p.files {
		var left []plainByte
		more := 0
		for _, x := range f.has {
			if !x.lasts {
				if more >= keep {
					break
				}
				more++
			}
			left = append(left, plainByte{x.b, true})
		}
		p.files[i].has = left
	}
	p.full, p.open = false, false
}

// both are a disk, and what the chapter's words say of it: whatever is done to one is done to the other.
type both struct {
	t *testing.T
	d *disk.Disk
	p *plain
}

// fresh is an empty one, for so many bytes.
func fresh(t *testing.T, room int) both {
	t.Helper()
	d := disk.New(room)
	if d == nil {
		t.Fatalf("New(%d) is nil", room)
	}
	b := both{t, d, &plain{room: room}}
	b.hold()
	return b
}

// hold says that all that a disk tells is what the words say.
func (b both) hold() {
	b.t.Helper()
	var names []string
	for _, f := range b.p.files {
		names = append(names, f.name)
		var want []byte
		for _, x := range f.has {
			want = append(want, x.b)
		}
		if got, e := b.d.Read(f.name); e != api.OK || !bytes.Equal(got, want) {
			b.t.Errorf("Read(%q) is % x, %d, want % x", f.name, brief(got), e, brief(want))
		}
	}
	slices.Sort(names)
	if got := b.d.Names(); !slices.Equal(got, names) {
		b.t.Errorf("Names are %q, want %q", got, names)
	}
	if got := b.d.Used(); got != b.p.used() {
		b.t.Errorf("Used is %d, want %d", got, b.p.used())
	}
	if got := b.d.Halted(); got != b.p.halted() {
		b.t.Errorf("Halted is %v, want %v", got, b.p.halted())
	}
}

// is says that a call's error is the one that the words say, and it is that one.
func (b both) is(call, name string, got, said, want api.Errno) {
	b.t.Helper()
	if got != want {
		b.t.Errorf("%s(%q) is %d, want %d", call, name, got, want)
	}
	if said != want {
		b.t.Errorf("%s(%q) is %d by the words, want %d", call, name, said, want)
	}
	b.hold()
}

func (b both) append(name string, x []byte, want api.Errno) {
	b.t.Helper()
	b.is("Append", name, b.d.Append(name, x), b.p.append(name, x), want)
}

func (b both) sync(name string, want api.Errno) {
	b.t.Helper()
	b.is("Sync", name, b.d.Sync(name), b.p.sync(name), want)
}

func (b both) cut(name string, n int, want api.Errno) {
	b.t.Helper()
	b.is("Cut", name, b.d.Cut(name, n), b.p.cut(name, n), want)
}

func (b both) drop(name string, want api.Errno) {
	b.t.Helper()
	b.is("Drop", name, b.d.Drop(name), b.p.drop(name), want)
}

func (b both) full(on bool) {
	b.t.Helper()
	b.d.Full(on)
	b.p.full = on
	b.hold()
}

func (b both) halt(calls int) {
	b.t.Helper()
	b.d.Halt(calls)
	b.p.halt(calls)
	b.hold()
}

func (b both) crash(keep int) {
	b.t.Helper()
	b.d.Crash(keep)
	b.p.crash(keep)
	b.hold()
}

// has says that a file is there, with these bytes.
func (b both) has(name, want string) {
	b.t.Helper()
	if got, e := b.d.Read(name); e != api.OK || string(got) != want {
		b.t.Errorf("Read(%q) is %q, %d, want %q", name, got, e, want)
	}
}

// none says that there is no such file.
func (b both) none(name string) {
	b.t.Helper()
	if got, e := b.d.Read(name); e != api.ErrFile || len(got) > 0 {
		b.t.Errorf("Read(%q) is %q, %d, want no such file", name, got, e)
	}
	if slices.Contains(b.d.Names(), name) {
		b.t.Errorf("Names tell %q", name)
	}
}

// lay is a file's end and, if that is to last, that it does.
func (b both) lay(name, x string, lasts bool) {
	b.t.Helper()
	b.append(name, []byte(x), api.OK)
	if lasts {
		b.sync(name, api.OK)
	}
}

// brief is so much of bytes as can be read.
func brief(b []byte) []byte { return b[:min(len(b), 60)] }

// chance is so many bytes by chance.
func chance(r *rand.Rand, many int) []byte {
	b := make([]byte, many)
	r.Read(b)
	return b
}

// name is one of so many bytes.
func name(many int) string { return strings.Repeat("n", many) }

// numbered is the name of the i-th of many files.
func numbered(i int) string { return "f" + string(rune('A'+i/16)) + string(rune('a'+i%16)) }

// wrong are names that no file has.
func wrong() []string {
	return []string{"", "b", "A", "a ", "a\x00", "aa", name(mostName), name(mostName + 1), name(300)}
}

// odd are numbers, of which some are as great and as small as any.
func odd() []int {
	return []int{math.MinInt, math.MinInt + 1, math.MinInt32, -mostRoom - 1, -mostRoom, -2, -1, 0, 1, 2, 3,
		mostRoom - 1, mostRoom, mostRoom + 1, math.MaxInt32 - 1, math.MaxInt32, math.MaxInt - 1, math.MaxInt}
}
