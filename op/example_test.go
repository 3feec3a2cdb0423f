package op_test

import (
	"fmt"

	"conciliator/api"
	"conciliator/json"
	"conciliator/op"
)

func Example() {
	v := api.Val{Kind: api.List, L: []api.Val{{Kind: api.Int, N: 9}}}
	a := []api.Comp{{Kind: api.Ins, I: 0, V: api.Val{Kind: api.Int, N: 1}}}
	b := []api.Comp{{Kind: api.Ins, I: 0, V: api.Val{Kind: api.Int, N: 2}}, {Kind: api.Rem, I: 1}}

	behindB, behindA := op.Cross(a, b)
	one, _ := op.Do(v, op.Join(a, behindA))
	two, _ := op.Do(v, op.Join(b, behindB))
	s, _ := json.Encode(one)
	u, _ := json.Encode(two)
	fmt.Println(s, u)
	fmt.Println(op.Check(v, []api.Comp{{Kind: api.Rem}, {Kind: api.Rem}}) == api.ErrPlace)

	typed := []api.Comp{{Kind: api.Tins, I: 3, S: "a"}, {Kind: api.Tins, I: 4, S: "b"}, {Kind: api.Add, N: 0}}
	for _, c := range op.Trim(typed) {
		fmt.Println(c.I, c.S)
	}
	// Output:
	// [1,2] [1,2]
	// true
	// 3 ab
}
