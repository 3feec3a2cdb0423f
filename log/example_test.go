package log_test

import (
	"fmt"
	"testing"

	"conciliator/api"
	"conciliator/disk"
	"conciliator/log"
)

// The chapter's example.
func TestExample(t *testing.T) {
	for _, e := range some() {
		for _, keep := range odd() {
			d := fresh()
			l, _ := opened(t, d, "a")
			appended(t, l, e)
			d.Crash(keep)
			holds(t, d, "a", e)
		}
	}
}

func Example() {
	d := disk.New(1000)
	l, all, e := log.Open(d, "a")
	fmt.Println(l.Len(), len(all), e == api.OK)

	e = l.Append(api.Entry{Kind: api.Create, Src: 1, Seq: 1, V: api.Val{Kind: api.Int, N: 7}})
	fmt.Println(l.Len(), e == api.OK, d.Names())

	d.Halt(1)
	e = l.Append(api.Entry{Kind: api.Delete, Src: 1, Seq: 2})
	fmt.Println(l.Len(), e == api.ErrFull)

	d.Crash(5)
	b, _ := d.Read("a.log")
	fmt.Println(len(b))

	l, all, e = log.Open(d, "a")
	fmt.Println(l.Len(), all[0].V.N, e == api.OK)
	b, _ = d.Read("a.log")
	fmt.Println(len(b))
	// Output:
	// 0 0 true
	// 1 true [a.log]
	// 1 true
	// 31
	// 1 7 true
	// 26
}
