package comp_test

import (
	"fmt"

	"conciliator/api"
	"conciliator/comp"
	"conciliator/json"
)

func Example() {
	v := api.Val{Kind: api.Obj, O: []api.Field{{Key: "a", V: api.Val{Kind: api.Int, N: 1}}}}
	put := api.Comp{Kind: api.Put, Key: "b", V: api.Val{Kind: api.Int, N: 2}}
	add := api.Comp{Kind: api.Add, Path: []api.Step{{Key: "a"}}, N: 2}

	w, e := comp.Do(v, put)
	s, _ := json.Encode(w)
	fmt.Println(s, e == api.OK)

	w, e = comp.Do(v, add)
	s, _ = json.Encode(w)
	fmt.Println(s, e == api.OK)

	fmt.Println(comp.Check(v, api.Comp{Kind: api.Del, Key: "z"}) == api.ErrKey)
	fmt.Println(comp.Sound(put), comp.Sound(api.Comp{Kind: api.Rem, S: "x"}))
	fmt.Println(comp.Same(put, comp.Copy(put)), comp.Same(put, add))
	// Output:
	// {"a":1,"b":2} true
	// {"a":3} true
	// true
	// true false
	// true false
}
