package turn_test

import (
	"fmt"

	"conciliator/api"
	"conciliator/turn"
)

func Example() {
	add := api.Comp{Kind: api.Add, Path: []api.Step{{List: true, I: 1}}, N: 5}
	ins := api.Comp{Kind: api.Ins, I: 0}
	for _, c := range turn.Turn(add, ins, true) {
		fmt.Println(c.Path[0].I, c.N)
	}
	fmt.Println(add.Path[0].I)
	fmt.Println(len(turn.Turn(add, api.Comp{Kind: api.Rem, I: 1}, true)))

	a := api.Comp{Kind: api.Put, Key: "k", V: api.Val{Kind: api.Int, N: 1}}
	b := api.Comp{Kind: api.Put, Key: "k", V: api.Val{Kind: api.Int, N: 2}}
	fmt.Println(len(turn.Turn(a, b, true)), len(turn.Turn(b, a, false)))
	// Output:
	// 2 5
	// 1
	// 0
	// 1 0
}
