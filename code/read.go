package code

import (
	"strings"

	"conciliator/api"
)

// reader reads what a writer laid. Where that goes on no further, it panics.
type reader struct {
	rest []byte
	deep int // how many lists and objects one is in
}

// short is what panics where fewer bytes are left than are to be read.
type short struct{}

// found is what all of some bytes are of; else why there is none. What is of a kind
// that is none is read as if nothing stood in it: it is not sound.
func found[T any](b []byte, sound func(T) bool, reads func(*reader) T) (x T, e api.Errno) {
	// x is set by the return alone, so that it is nothing beside an error.
	defer func() {
		switch wrong := recover().(type) {
		case nil:
		case api.Errno:
			e = wrong
		default: // what is short
			e = api.ErrCode
		}
	}()
	need(len(b) <= api.MaxBytes, api.ErrLimit)
	r := reader{rest: b}
	got := reads(&r)
	need(len(r.rest) == 0 && sound(got), api.ErrCode)
	return got, api.OK
}

// need panics, for found to recover, unless all is right.
func need(right bool, e api.Errno) {
	if !right {
		panic(e)
	}
}

// cut is the next n bytes. It looks at how many are left, since a slice may be cut
// to where its memory ends.
func (r *reader) cut(n uint32) []byte {
	if uint64(n) > uint64(len(r.rest)) {
		panic(short{})
	}
	b := r.rest[:n]
	r.rest = r.rest[n:]
	return b
}

// text is built anew, since short texts that are converted share memory with one another.
func (r *reader) text() string {
	var s strings.Builder
	s.Write(r.cut(read[uint32](r)))
	return s.String()
}

// readRow makes no room ahead: there may be fewer than are told.
func readRow[C uint8 | uint32, T any](r *reader, one func(*reader) T) []T {
	var row []T
	for range uint32(read[C](r)) {
		row = append(row, one(r))
	}
	return row
}

func (r *reader) entry() api.Entry {
	e := api.Entry{Kind: read[uint8](r), Src: read[uint32](r), Seq: read[uint32](r)}
	switch e.Kind {
	case api.Create:
		e.V = r.value()
	case api.Edit:
		e.Op = readRow[uint32](r, (*reader).comp)
	}
	return e
}

// value looks at how deep it is on the way in, so that no bytes make it recur for long.
func (r *reader) value() api.Val {
	need(r.deep <= api.MaxDeep, api.ErrCode)
	r.deep++
	v := api.Val{Kind: read[uint8](r)}
	switch v.Kind {
	case api.Bool, api.Int:
		v.N = read[int64](r)
	case api.Text:
		v.S = r.text()
	case api.List:
		v.L = readRow[uint32](r, (*reader).value)
	case api.Obj:
		v.O = readRow[uint32](r, (*reader).field)
	}
	r.deep--
	return v
}

func (r *reader) field() api.Field { return api.Field{Key: r.text(), V: r.value()} }

func (r *reader) comp() api.Comp {
	c := api.Comp{Kind: read[uint8](r), Path: readRow[uint8](r, (*reader).step)}
	for _, p := range parts(c.Kind) {
		p.read(r, &c)
	}
	return c
}

func (r *reader) step() api.Step {
	switch read[uint8](r) {
	case intoList:
		return api.Step{List: true, I: r.place()}
	case intoObject:
		return api.Step{Key: r.text()}
	}
	panic(api.ErrCode)
}

func (r *reader) place() int { return int(read[int64](r)) }
