package code_test

import (
	"fmt"

	"conciliator/api"
	"conciliator/code"
)

func Example() {
	b, _ := code.Encode(api.Entry{Kind: api.Delete, Src: 1, Seq: 2})
	fmt.Printf("% x\n", b)

	e, _ := code.Decode(b)
	fmt.Println(e.Kind == api.Delete, e.Src, e.Seq)

	_, wrong := code.Decode(append(b, 0))
	fmt.Println(wrong == api.ErrCode)

	c, _ := code.Value(api.Val{Kind: api.Text, S: "ab"})
	fmt.Printf("% x\n", c)

	v, _ := code.Back(c)
	fmt.Println(v.S)
	// Output:
	// 03 00 00 00 01 00 00 00 02
	// true 1 2
	// true
	// 03 00 00 00 02 61 62
	// ab
}
