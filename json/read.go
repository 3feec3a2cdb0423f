package json

import (
	"strconv"
	"strings"

	"conciliator/api"
	"conciliator/val"
)

// cursor is a place in a text. What is not as it must be there panics.
type cursor struct {
	s  string
	at int
}

// first is the byte that stands here.
func (c *cursor) first() byte {
	need(c.at < len(c.s), api.ErrJSON)
	return c.s[c.at]
}

// next is the same, and goes on behind it.
func (c *cursor) next() byte {
	b := c.first()
	c.at++
	return b
}

// skips goes on behind w, if that stands here.
func (c *cursor) skips(w string) bool {
	if !strings.HasPrefix(c.s[c.at:], w) {
		return false
	}
	c.at += len(w)
	return true
}

// word goes on behind w, which must stand here.
func (c *cursor) word(w string) { need(c.skips(w), api.ErrJSON) }

// digit is what the byte that stands here counts in that base.
func (c *cursor) digit(base int) int {
	n := strings.IndexByte(digits[:base], c.next())
	need(n >= 0, api.ErrJSON)
	return n
}

// reader reads values; what its cursor does, it does too.
type reader struct {
	cursor
	deep int // how many lists and objects one is in
}

// whole is the value of all of a text.
func whole(s string) api.Val {
	r := reader{cursor: cursor{s: s}}
	v := r.value()
	need(r.at == len(s), api.ErrJSON)
	need(val.Sound(v) && fits(v), api.ErrJSON)
	return v
}

func (r *reader) value() api.Val {
	read := r.way()
	return read()
}

// way is how a value is read that begins with the byte that stands here.
func (r *reader) way() func() api.Val {
	switch r.first() {
	case 'n':
		return r.nothing
	case 't':
		return r.yes
	case 'f':
		return r.no
	case '-', '0', '1', '2', '3', '4', '5', '6', '7', '8', '9':
		return r.number
	case '"':
		return r.text
	case '[':
		return r.list
	case '{':
		return r.object
	}
	panic(api.ErrJSON)
}

func (r *reader) nothing() api.Val {
	r.word("null")
	return api.Val{}
}

func (r *reader) yes() api.Val {
	r.word("true")
	return api.Val{Kind: api.Bool, N: 1}
}

func (r *reader) no() api.Val {
	r.word("false")
	return api.Val{Kind: api.Bool}
}

// number is held against what would be written of it: that has no noughts ahead.
func (r *reader) number() api.Val {
	from := r.at
	r.skips("-")
	for r.at < len(r.s) && '0' <= r.s[r.at] && r.s[r.at] <= '9' {
		r.at++
	}
	n, err := strconv.ParseInt(r.s[from:r.at], 10, 64)
	if err != nil {
		panic(err)
	}
	need(strconv.FormatInt(n, 10) == r.s[from:r.at], api.ErrJSON)
	return api.Val{Kind: api.Int, N: n}
}

func (r *reader) text() api.Val { return api.Val{Kind: api.Text, S: r.letters()} }

func (r *reader) list() api.Val {
	v := api.Val{Kind: api.List}
	r.row("[", "]", func() { v.L = append(v.L, r.value()) })
	return v
}

func (r *reader) object() api.Val {
	v := api.Val{Kind: api.Obj}
	r.row("{", "}", func() {
		key := r.letters()
		r.word(":")
		v.O = append(v.O, api.Field{Key: key, V: r.value()})
	})
	return v
}

// row reads what stands between two brackets. It looks at how deep it is on
// the way in, so that no text makes it recur for long.
func (r *reader) row(open, shut string, one func()) {
	r.word(open)
	if r.skips(shut) {
		return
	}
	need(r.deep < api.MaxDeep, api.ErrJSON)
	r.deep++
	one()
	for !r.skips(shut) {
		r.word(",")
		one()
	}
	r.deep--
}

// letters are built anew, not cut out, since an answer shares no memory with the text.
func (r *reader) letters() string {
	r.word(`"`)
	var b strings.Builder
	for {
		switch c := r.next(); {
		case c == '"':
			return b.String()
		case c == '\\':
			b.WriteByte(r.escaped())
		default:
			need(c >= ' ', api.ErrJSON)
			b.WriteByte(c)
		}
	}
}

// escaped is the byte that a backslash and what stands here are written for:
// one in one way only, so that those from 20 on are not written by digits.
func (r *reader) escaped() byte {
	switch c := r.next(); c {
	case '"', '\\':
		return c
	case 'u':
		r.word("00")
		high := r.digit(2)
		return byte(16*high + r.digit(16))
	}
	panic(api.ErrJSON)
}
