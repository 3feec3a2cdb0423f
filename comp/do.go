package comp

import (
	"slices"

	"conciliator/api"
	"conciliator/path"
	"conciliator/seq"
	"conciliator/text"
	"conciliator/val"
)

// Check says whether one may be done to a value.
func Check(v api.Val, c api.Comp) api.Errno {
	_, e := find(v, c)
	return e
}

// Do is a value to which one is done.
func Do(v api.Val, c api.Comp) (api.Val, api.Errno) {
	p, e := find(v, c)
	if e != api.OK {
		return api.Val{}, e
	}
	p.do(c)
	return path.Put(v, c.Path, p.Val)
}

// place is the value that is worked on: what stands where a component leads, in
// new memory.
type place struct{ api.Val }

// find is that place, if the component may be done there.
func find(v api.Val, c api.Comp) (place, api.Errno) {
	if !Sound(c) {
		return place{}, api.ErrComp
	}
	x, e := path.Get(v, c.Path)
	if e != api.OK {
		return place{}, e
	}
	p := place{x}
	return p, p.check(c)
}

func (p *place) check(c api.Comp) api.Errno {
	if p.Kind != worksOn(c.Kind) {
		return api.ErrKind
	}
	switch p.Kind {
	case api.List:
		return seq.Check(len(p.L), c)
	case api.Text:
		return text.Check(p.S, c)
	}
	if c.Kind == api.Del && !p.has(c.Key) {
		return api.ErrKey
	}
	return api.OK
}

// worksOn is of which kind the value has to be.
func worksOn(kind uint8) uint8 {
	switch kind {
	case api.Add:
		return api.Int
	case api.Put, api.Del:
		return api.Obj
	case api.Tins, api.Tdel:
		return api.Text
	default: // no other kind is sound
		return api.List
	}
}

func (p *place) has(key string) bool {
	_, there := val.Field(p.Val, key)
	return there
}

// do is asked where check tells no error, so that seq and text tell none.
func (p *place) do(c api.Comp) {
	switch c.Kind {
	case api.Add:
		p.N += c.N
	case api.Put:
		p.put(c.Key, c.V)
	case api.Del:
		p.del(c.Key)
	case api.Tins, api.Tdel:
		p.S, _ = text.Do(p.S, c)
	default:
		p.L, _ = seq.Do(p.L, c)
	}
}

func (p *place) put(key string, v api.Val) {
	i, there := val.Field(p.Val, key)
	if !there {
		p.O = slices.Insert(p.O, i, api.Field{Key: key})
	}
	p.O[i].V = v
}

func (p *place) del(key string) {
	i, _ := val.Field(p.Val, key)
	p.O = slices.Delete(p.O, i, i+1)
}
