package frame_test

import (
	"fmt"

	"conciliator/api"
	"conciliator/frame"
)

func Example() {
	b, e := frame.Wrap(nil)
	fmt.Printf("% x, %v\n", b, e == api.OK)

	w, _ := frame.Wrap([]byte("ab"))
	held, long, e := frame.Open(append(w, "behind"...))
	fmt.Printf("%s, %d, %v\n", held, long, e == api.OK)

	_, _, e = frame.Open(w[1:])
	fmt.Println(e == api.ErrFrame)

	all, end := frame.Scan(append(append(b, w...), 1, 2))
	fmt.Printf("%q, %d\n", all, end)
	// Output:
	// 00 00 00 00 21 44 df 1c, true
	// ab, 10, true
	// true
	// ["" "ab"], 18
}
