package text

import "conciliator/api"

// Turn is what is to be done of a, behind b, if both were meant for the same
// text; left: a's goes ahead where both would stand at one place.
func Turn(a, b api.Comp, left bool) []api.Comp {
	switch {
	case a.Kind == api.Tins && b.Kind == api.Tins:
		return insBehindIns(a, b, left)
	case a.Kind == api.Tins && b.Kind == api.Tdel:
		return insBehindDel(a, b)
	case a.Kind == api.Tdel && b.Kind == api.Tins:
		return delBehindIns(a, b)
	case a.Kind == api.Tdel && b.Kind == api.Tdel:
		return delBehindDel(a, b)
	}
	return anew(a)
}

func insBehindIns(a, b api.Comp, left bool) []api.Comp {
	if b.I < a.I || b.I == a.I && !left {
		a.I += Len(b.S)
	}
	return anew(a)
}

func insBehindDel(a, b api.Comp) []api.Comp {
	if int64(a.I) >= end(b) {
		a.I -= int(b.N)
	} else if a.I > b.I {
		a.I = b.I
	}
	return anew(a)
}

// delBehindIns makes two of a where b's text stands within it, since that is not a's to take.
func delBehindIns(a, b api.Comp) []api.Comp {
	more := Len(b.S)
	if b.I <= a.I {
		a.I += more
		return anew(a)
	}
	if int64(b.I) >= end(a) {
		return anew(a)
	}
	ahead, behind := a, a
	ahead.N = int64(b.I) - int64(a.I)
	behind.I += more
	behind.N -= ahead.N
	return anew(ahead, behind)
}

func delBehindDel(a, b api.Comp) []api.Comp {
	both := max(0, min(end(a), end(b))-int64(max(a.I, b.I)))
	if both == a.N {
		return nil
	}
	ahead := max(0, min(int64(a.I), end(b))-int64(b.I))
	a.I -= int(ahead)
	a.N -= both
	return anew(a)
}

// end is which character is the first behind those that a Tdel takes.
func end(c api.Comp) int64 { return int64(c.I) + c.N }
