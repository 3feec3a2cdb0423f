package code

import "conciliator/api"

// Bytes that say where a step leads into.
const (
	intoObject uint8 = 0
	intoList   uint8 = 1
)

// part is a field of components: how it is laid, and how it is read.
type part struct {
	lay  func(*writer, api.Comp)
	read func(*reader, *api.Comp)
}

// parts are those that say something of a component's kind, in their order.
func parts(kind uint8) []part {
	key := part{(*writer).key, (*reader).key}
	i := part{(*writer).i, (*reader).i}
	j := part{(*writer).j, (*reader).j}
	n := part{(*writer).n, (*reader).n}
	v := part{(*writer).v, (*reader).v}
	s := part{(*writer).s, (*reader).s}
	switch kind {
	case api.Add:
		return []part{n}
	case api.Put:
		return []part{key, v}
	case api.Del:
		return []part{key}
	case api.Ins, api.Set:
		return []part{i, v}
	case api.Rem:
		return []part{i}
	case api.Move:
		return []part{i, j}
	case api.Tins:
		return []part{i, s}
	case api.Tdel:
		return []part{i, n}
	}
	return nil
}

func (w *writer) key(c api.Comp) { w.text(c.Key) }
func (w *writer) i(c api.Comp)   { lay(w, int64(c.I)) }
func (w *writer) j(c api.Comp)   { lay(w, int64(c.J)) }
func (w *writer) n(c api.Comp)   { lay(w, c.N) }
func (w *writer) v(c api.Comp)   { w.value(c.V) }
func (w *writer) s(c api.Comp)   { w.text(c.S) }

func (r *reader) key(c *api.Comp) { c.Key = r.text() }
func (r *reader) i(c *api.Comp)   { c.I = r.place() }
func (r *reader) j(c *api.Comp)   { c.J = r.place() }
func (r *reader) n(c *api.Comp)   { c.N = read[int64](r) }
func (r *reader) v(c *api.Comp)   { c.V = r.value() }
func (r *reader) s(c *api.Comp)   { c.S = r.text() }
