package json

import (
	"strconv"
	"strings"

	"conciliator/api"
)

// writer writes sound values; what a builder does, it does too.
type writer struct{ strings.Builder }

func (w *writer) value(v api.Val) {
	switch v.Kind {
	case api.Null:
		w.WriteString("null")
	case api.Bool:
		w.WriteString(strconv.FormatBool(v.N == 1))
	case api.Int:
		w.WriteString(strconv.FormatInt(v.N, 10))
	case api.Text:
		w.text(v.S)
	case api.List:
		w.list(v.L)
	case api.Obj:
		w.object(v.O)
	}
}

func (w *writer) list(l []api.Val) {
	w.WriteByte('[')
	for i, x := range l {
		w.comma(i)
		w.value(x)
	}
	w.WriteByte(']')
}

func (w *writer) object(o []api.Field) {
	w.WriteByte('{')
	for i, f := range o {
		w.comma(i)
		w.text(f.Key)
		w.WriteByte(':')
		w.value(f.V)
	}
	w.WriteByte('}')
}

// comma stands ahead of each of a row but the first.
func (w *writer) comma(i int) {
	if i > 0 {
		w.WriteByte(',')
	}
}

func (w *writer) text(s string) {
	w.WriteByte('"')
	for i := range len(s) {
		w.letter(s[i])
	}
	w.WriteByte('"')
}

// letter goes by bytes, not by characters: only bytes that are characters
// of their own are written otherwise than they are.
func (w *writer) letter(c byte) {
	switch {
	case c == '"' || c == '\\':
		w.WriteByte('\\')
		w.WriteByte(c)
	case c < ' ':
		w.WriteString(`\u00`)
		w.WriteByte(digits[c/16])
		w.WriteByte(digits[c%16])
	default:
		w.WriteByte(c)
	}
}
