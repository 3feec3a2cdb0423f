package disk_test

import (
	"fmt"

	"conciliator/api"
	"conciliator/disk"
)

func Example() {
	d := disk.New(100)
	d.Append("a", []byte("ab"))
	d.Sync("a")
	d.Append("a", []byte("cde"))
	d.Crash(1)
	b, e := d.Read("a")
	fmt.Printf("%s, %v\n", b, e == api.OK)

	d.Halt(1)
	d.Append("b", []byte("fg"))
	fmt.Println(d.Halted(), d.Sync("b") == api.ErrFull)
	d.Crash(0)
	fmt.Println(d.Halted(), d.Names(), d.Used())
	// Output:
	// abc, true
	// true true
	// false [a b] 3
}
