package op

import (
	"slices"

	"conciliator/api"
	"conciliator/turn"
)

// Cross are two operations that were meant for the same value, each as it is to
// be done behind the other one; the first one is left.
func Cross(a, b []api.Comp) ([]api.Comp, []api.Comp) {
	a, b = cross(a, b)
	return copies(a), copies(b)
}

// cross hands out parts of what was handed in. The chapter parts an operation
// behind its first component; wherever it is parted, the same components meet.
// It is parted in halves here, since then no call lies deep in others.
func cross(a, b []api.Comp) ([]api.Comp, []api.Comp) {
	switch {
	case len(a) == 0 || len(b) == 0:
		return a, b
	case len(a) > 1:
		return crossLeftHalves(a, b)
	case len(b) > 1:
		return crossRightHalves(a, b)
	}
	return turn.Turn(a[0], b[0], true), turn.Turn(b[0], a[0], false)
}

func crossLeftHalves(a, b []api.Comp) ([]api.Comp, []api.Comp) {
	half := len(a) / 2
	first, b := cross(a[:half], b)
	rest, b := cross(a[half:], b)
	return slices.Concat(first, rest), b
}

func crossRightHalves(a, b []api.Comp) ([]api.Comp, []api.Comp) {
	half := len(b) / 2
	a, first := cross(a, b[:half])
	a, rest := cross(a, b[half:])
	return a, slices.Concat(first, rest)
}
