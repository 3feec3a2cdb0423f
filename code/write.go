package code

import (
	"slices"

	"conciliator/api"
)

// writer lays sound things. What is more than MaxBytes is counted, but not kept,
// since it is told to nobody.
type writer struct {
	kept  []byte
	count int
}

// laid is something as bytes; else why not.
func laid[T any](x T, sound func(T) bool, lays func(*writer, T)) ([]byte, api.Errno) {
	if !sound(x) {
		return nil, api.ErrArg
	}
	var w writer
	lays(&w, x)
	if w.count > api.MaxBytes {
		return nil, api.ErrLimit
	}
	return slices.Clip(w.kept), api.OK
}

// room counts n bytes more, and says whether they are to be kept.
func (w *writer) room(n int) bool {
	w.count += n
	return w.count <= api.MaxBytes
}

func (w *writer) text(s string) {
	lay(w, uint32(len(s)))
	if w.room(len(s)) {
		w.kept = append(w.kept, s...)
	}
}

// layRow lays how many there are, and these.
func layRow[C uint8 | uint32, T any](w *writer, row []T, one func(*writer, T)) {
	lay(w, C(len(row)))
	for _, x := range row {
		one(w, x)
	}
}

func (w *writer) entry(e api.Entry) {
	lay(w, e.Kind)
	lay(w, e.Src)
	lay(w, e.Seq)
	switch e.Kind {
	case api.Create:
		w.value(e.V)
	case api.Edit:
		layRow[uint32](w, e.Op, (*writer).comp)
	}
}

func (w *writer) value(v api.Val) {
	lay(w, v.Kind)
	switch v.Kind {
	case api.Bool, api.Int:
		lay(w, v.N)
	case api.Text:
		w.text(v.S)
	case api.List:
		layRow[uint32](w, v.L, (*writer).value)
	case api.Obj:
		layRow[uint32](w, v.O, (*writer).field)
	}
}

func (w *writer) field(f api.Field) {
	w.text(f.Key)
	w.value(f.V)
}

func (w *writer) comp(c api.Comp) {
	lay(w, c.Kind)
	layRow[uint8](w, c.Path, (*writer).step)
	for _, p := range parts(c.Kind) {
		p.lay(w, c)
	}
}

func (w *writer) step(s api.Step) {
	if s.List {
		lay(w, intoList)
		lay(w, int64(s.I))
		return
	}
	lay(w, intoObject)
	w.text(s.Key)
}
