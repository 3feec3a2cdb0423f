package path_test

import (
	"slices"
	"testing"

	"conciliator/api"
	"conciliator/path"
)

func TestSoundSteps(t *testing.T) {
	rows := []struct {
		s    api.Step
		want bool
	}{
		{nth(0), true},
		{nth(1), true},
		{nth(1<<63 - 1), true},
		{nth(-1), false},
		{nth(-1 << 63), false},
		{api.Step{List: true, Key: "a"}, false},
		{api.Step{List: true, I: 3, Key: "\x00"}, false},
		{api.Step{List: true, Key: "\xff"}, false},
		{api.Step{List: true, I: -1, Key: "a"}, false},
		{key(""), true},
		{key("a"), true},
		{key("\x00"), true},
		{key("\u00e9\ufffd\U0010ffff"), true},
		{key("\xff"), false},
		{key("a\xc3"), false},            // cut short
		{key("\xed\xa0\x80"), false},     // half of a pair
		{key("\xc0\x80"), false},         // longer than it must be
		{key("\xf4\x90\x80\x80"), false}, // behind the last
		{api.Step{I: 1}, false},
		{api.Step{I: -1, Key: "a"}, false},
		{api.Step{I: 2, Key: "a"}, false},
	}
	for _, r := range rows {
		first, last := key("k"), nth(0)
		for _, p := range [][]api.Step{way(r.s), way(r.s, last), way(first, r.s), way(first, r.s, last)} {
			if path.Sound(p) != r.want {
				t.Errorf("Sound(%+v) is %v", p, !r.want)
			}
		}
	}
}

func TestSoundLengths(t *testing.T) {
	for n := range 40 {
		want := n <= 16
		if path.Sound(slices.Repeat(way(nth(0)), n)) != want || path.Sound(slices.Repeat(way(key("a")), n)) != want {
			t.Errorf("Sound of %d steps", n)
		}
	}
	if !path.Sound(nil) || !path.Sound([]api.Step{}) {
		t.Error("the empty path is one")
	}
	if p := slices.Repeat(way(nth(0)), 17); !path.Sound(p[:16]) {
		t.Error("what lies behind a path is looked at")
	}
}

// Each step is looked at, the first as well as the sixteenth.
func TestSoundLooksAtEachStep(t *testing.T) {
	for i := range 16 {
		for _, odd := range []api.Step{nth(-1), key("\xff"), {I: 1}, {List: true, Key: "a"}} {
			p := slices.Repeat(way(nth(2), key("a")), 8)
			p[i] = odd
			if path.Sound(p) {
				t.Errorf("Sound(%+v)", p)
			}
		}
	}
}
