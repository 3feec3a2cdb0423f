package sum_test

import (
	"fmt"

	"conciliator/sum"
)

func Example() {
	fmt.Printf("%08x\n", sum.Sum([]byte("123456789")))
	fmt.Printf("%08x\n", sum.Sum([]byte("1234"), nil, []byte("56789")))
	fmt.Printf("%08x\n", sum.Sum())
	// Output:
	// cbf43926
	// cbf43926
	// 00000000
}
