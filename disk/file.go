package disk

import "bytes"

// file is what one has, and how many of these bytes, from the first one on, last.
type file struct {
	has   []byte
	lasts int
}

func (f *file) sync() { f.lasts = len(f.has) }

// cut lays what is left into memory of its own, so that nothing of the rest is kept.
func (f *file) cut(n int) {
	f.has = bytes.Clone(f.has[:n])
	f.lasts = min(f.lasts, n)
}

// crash leaves what lasts, and so many bytes more, as far as it has them.
func (f *file) crash(keep int) {
	// keep may be so great that no number is greater: nothing is added to it.
	more := min(max(keep, 0), len(f.has)-f.lasts)
	f.cut(f.lasts + more)
	f.sync()
}
