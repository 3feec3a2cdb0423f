package json_test

import (
	"fmt"

	"conciliator/api"
	"conciliator/json"
)

func Example() {
	v, e := json.Decode(`{"a":[1,null],"b":"x\\y"}`)
	fmt.Println(len(v.O), v.O[1].V.S, e == api.OK)
	fmt.Println(json.Encode(v.O[0].V))

	_, e = json.Decode(`{"b":1,"a":1}`)
	fmt.Println(e == api.ErrJSON)
	// Output:
	// 2 x\y true
	// [1,null] conciliator 0
	// true
}
