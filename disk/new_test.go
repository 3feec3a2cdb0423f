package disk_test

import (
	"math"
	"testing"

	"conciliator/api"
	"conciliator/disk"
)

func TestNewOfNoRoom(t *testing.T) {
	for _, room := range []int{-1, -2, -mostRoom, math.MinInt32, math.MinInt, mostRoom + 1, mostRoom + 2, 2 * mostRoom, math.MaxInt32, math.MaxInt} {
		if disk.New(room) != nil {
			t.Errorf("New(%d) is a disk", room)
		}
	}
}

func TestNewHasNothing(t *testing.T) {
	for _, room := range []int{0, 1, 100, mostRoom - 1, mostRoom} {
		b := fresh(t, room)
		if len(b.d.Names()) != 0 || b.d.Used() != 0 || b.d.Halted() {
			t.Errorf("New(%d): %q, %d, %v", room, b.d.Names(), b.d.Used(), b.d.Halted())
		}
		b.none("a")
	}
}

// First it is neither full nor halted, and no Halt is open.
func TestNewTakesCalls(t *testing.T) {
	b := fresh(t, 0)
	for range 1000 {
		b.append("a", nil, api.OK)
		b.sync("a", api.OK)
		b.cut("a", 0, api.OK)
		b.drop("a", api.OK)
	}
}

// Just so many bytes fit.
func TestNewHasSoMuchRoom(t *testing.T) {
	for _, room := range []int{0, 1, 2, 100, 60008, mostRoom - 1, mostRoom} {
		b := fresh(t, room)
		b.append("a", make([]byte, room+1), api.ErrFull)
		b.append("a", make([]byte, room), api.OK)
		b.append("a", make([]byte, 1), api.ErrFull)
		b.append("b", make([]byte, 1), api.ErrFull)
		b.append("b", nil, api.OK)
	}
}
