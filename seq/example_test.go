package seq_test

import (
	"fmt"

	"conciliator/api"
	"conciliator/seq"
)

func Example() {
	a := api.Val{Kind: api.Text, S: "a"}
	b := api.Val{Kind: api.Text, S: "b"}
	c := api.Val{Kind: api.Text, S: "c"}
	l := []api.Val{a, b, c}
	move := api.Comp{Kind: api.Move, I: 0, J: 2}
	ins := api.Comp{Kind: api.Ins, I: 1, V: api.Val{Kind: api.Text, S: "x"}}

	fmt.Println(seq.Check(2, move) == api.ErrPlace)
	m, e := seq.Do(l, move)
	fmt.Println(m[0].S, m[1].S, m[2].S, e == api.OK)
	fmt.Println(seq.At(1, ins))
	fmt.Println(seq.At(1, api.Comp{Kind: api.Rem, I: 1}))

	m, _ = seq.Do(l, ins)
	for _, t := range seq.Turn(move, ins, true) {
		fmt.Println(t.I, t.J)
		m, _ = seq.Do(m, t)
	}
	fmt.Println(m[0].S, m[1].S, m[2].S, m[3].S)
	// Output:
	// true
	// b c a true
	// 2 true
	// 0 false
	// 0 3
	// x b c a
}
