package path_test

import (
	"fmt"

	"conciliator/api"
	"conciliator/path"
)

func Example() {
	v := api.Val{Kind: api.Obj, O: []api.Field{
		{Key: "a", V: api.Val{Kind: api.List, L: []api.Val{
			{Kind: api.Int, N: 1},
			{Kind: api.Int, N: 2},
		}}},
	}}
	p := []api.Step{{Key: "a"}, {List: true, I: 1}}
	x, e := path.Get(v, p)
	fmt.Println(x.N, e == api.OK)
	_, e = path.Get(v, []api.Step{{Key: "a"}, {List: true, I: 5}})
	fmt.Println(e == api.ErrPath)

	w, _ := path.Put(v, p, api.Val{Kind: api.Int, N: 3})
	fmt.Println(v.O[0].V.L[1].N, w.O[0].V.L[1].N)

	fmt.Println(path.Sound(p), path.Begins(p, p[:1]), path.Begins(p[:1], p))
	// Output:
	// 2 true
	// true
	// 2 3
	// true true false
}
