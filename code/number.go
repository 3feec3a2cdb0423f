package code

import "math/bits"

// number is what is laid in as many bytes as its type has: kinds, and how many
// steps there are, in one; Src, Seq, and how many there are of others, in four.
type number interface{ uint8 | uint32 | int64 }

// size is how many bytes a number of that type has: in ^0 all of its bits are set,
// and, where it may be below 0, all of 64.
func size[T number]() int { return bits.Len64(uint64(^T(0))) / 8 }

// lay lays a number, the greatest byte first.
func lay[T number](w *writer, n T) {
	many := size[T]()
	if !w.room(many) {
		return
	}
	for i := range many {
		w.kept = append(w.kept, byte(n>>(8*(many-1-i))))
	}
}

// read is the number that comes next.
func read[T number](r *reader) T {
	n := uint64(0)
	for _, b := range r.cut(uint32(size[T]())) {
		n = n<<8 | uint64(b)
	}
	return T(n)
}
