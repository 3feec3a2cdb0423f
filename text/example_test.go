package text_test

import (
	"fmt"

	"conciliator/api"
	"conciliator/text"
)

func Example() {
	fmt.Println(text.Len("h\u00e9"))

	del := api.Comp{Kind: api.Tdel, I: 1, N: 3}
	ins := api.Comp{Kind: api.Tins, I: 2, S: "xy"}
	s, e := text.Do("abcde", del)
	fmt.Println(s, e == api.OK)
	_, e = text.Do("abc", del)
	fmt.Println(e == api.ErrPlace)

	s, _ = text.Do("abcde", ins)
	for _, c := range text.Turn(del, ins, true) {
		fmt.Println(c.I, c.N)
		s, _ = text.Do(s, c)
	}
	fmt.Println(s)
	// Output:
	// 2
	// ae true
	// true
	// 1 1
	// 3 2
	// axye
}
