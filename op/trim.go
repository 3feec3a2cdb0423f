package op

import (
	"slices"
	"unicode/utf8"

	"conciliator/api"
	"conciliator/comp"
	"conciliator/text"
)

// Join is one operation, and another one behind it, as one.
func Join(a, b []api.Comp) []api.Comp { return Trim(slices.Concat(a, b)) }

// Trim is the same operation with fewer components, where some are one together.
func Trim(op []api.Comp) []api.Comp {
	var l []part
	for _, c := range op {
		if !idle(c) {
			l = lay(l, c)
		}
	}
	return whole(l)
}

// lay lays c behind these parts, or onto the last one.
func lay(l []part, c api.Comp) []part {
	last := len(l) - 1
	if last < 0 || !l[last].take(c) {
		return append(l, begin(c))
	}
	if idle(l[last].Comp) { // Adds, one ahead of the other, that come to nothing
		return l[:last]
	}
	return l
}

// idle says whether a component does nothing.
func idle(c api.Comp) bool {
	return c.Kind == api.Add && c.N == 0 || c.Kind == api.Move && c.I == c.J
}

// part is a component that those behind it may be laid onto. A Tins's text grows
// apart from S, and is counted as it grows: else each of many would cost as much
// as all those ahead of it.
type part struct {
	api.Comp
	letters []byte
	chars   int
}

func begin(c api.Comp) part {
	p := part{Comp: c}
	if c.Kind == api.Tins {
		p.grow(c.S)
	}
	return p
}

// take lays c onto the part, if both are one together.
func (p *part) take(c api.Comp) bool {
	if c.Kind != p.Kind || !slices.Equal(c.Path, p.Path) {
		return false
	}
	switch {
	case c.Kind == api.Add:
		p.N += c.N
	case c.Kind == api.Put && c.Key == p.Key:
		p.Comp = c
	case c.Kind == api.Tins && c.I == p.I+p.chars:
		p.grow(c.S)
	default:
		return false
	}
	return true
}

// grow counts what stands ahead of the seam once more, since bytes that are no
// character by themselves may be one with those behind it.
func (p *part) grow(s string) {
	ahead := string(p.letters[max(0, len(p.letters)-utf8.UTFMax):])
	p.letters = append(p.letters, s...)
	p.chars += text.Len(ahead+s) - text.Len(ahead)
}

// whole are the components of these parts, in new memory.
func whole(l []part) []api.Comp {
	out := make([]api.Comp, len(l))
	for i, p := range l {
		if p.Kind == api.Tins {
			p.S = string(p.letters)
		}
		out[i] = comp.Copy(p.Comp)
	}
	return out
}
