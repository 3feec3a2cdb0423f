package val_test

import (
	"fmt"

	"conciliator/api"
	"conciliator/val"
)

func Example() {
	v := api.Val{Kind: api.List, L: []api.Val{
		{Kind: api.Int, N: 1},
		{Kind: api.Text, S: "ab"},
	}}
	fmt.Println(val.Sound(v), val.Weight(v), val.Deep(v))

	w := val.Copy(v)
	w.L[0].N = 2
	fmt.Println(v.L[0].N, val.Same(v, w))

	o := api.Val{Kind: api.Obj, O: []api.Field{{Key: "a"}, {Key: "c"}}}
	fmt.Println(val.Field(o, "b"))
	fmt.Println(val.Field(o, "c"))
	// Output:
	// true 5 1
	// 1 false
	// 1 false
	// 1 true
}
