package inv_test

import (
	"fmt"

	"conciliator/api"
	"conciliator/inv"
	"conciliator/json"
	"conciliator/op"
)

func Example() {
	v, _ := json.Decode(`{"a":1}`)
	l := []api.Comp{
		{Kind: api.Put, Key: "a", V: api.Val{Kind: api.Int, N: 2}},
		{Kind: api.Put, Key: "b", V: api.Val{Kind: api.Text, S: "x"}},
	}
	undo, _ := inv.All(v, l)
	fmt.Println(undo[0].Kind == api.Del, undo[0].Key, undo[1].Kind == api.Put, undo[1].Key, undo[1].V.N)

	w, _ := op.Do(v, l)
	back, _ := op.Do(w, undo)
	s, _ := json.Encode(w)
	u, _ := json.Encode(back)
	fmt.Println(s, u)

	_, e := inv.Turned(v, api.Comp{Kind: api.Del, Key: "b"})
	fmt.Println(e == api.ErrKey)
	// Output:
	// true b true a 1
	// {"a":2,"b":"x"} {"a":1}
	// true
}
