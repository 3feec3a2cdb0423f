package comp_test

import (
	"math/rand"
	"reflect"
	"testing"

	"conciliator/api"
	"conciliator/comp"
)

func TestCopyIsTheSame(t *testing.T) {
	all := many()
	for k := range 256 {
		all = append(all, laden(uint8(k)))
	}
	r := rand.New(rand.NewSource(2))
	for range 2000 {
		all = append(all, chanceComp(r, chance(r, 3)))
	}
	for _, c := range all {
		got := comp.Copy(c)
		if !reflect.DeepEqual(twin(got), twin(c)) || !comp.Same(got, c) {
			t.Errorf("Copy(%+v) is %+v", c, got)
		}
	}
}

func TestCopyLeavesWhatLiesBehind(t *testing.T) {
	c := laden(api.Put)
	got := comp.Copy(c)
	if !nothingBehind(got.Path, got.V.L, got.V.O) {
		t.Errorf("behind the lists of a copy: %+v", got)
	}
	_, _, _ = append(got.Path, key("z")), append(got.V.L, txt("z")), append(got.V.O, at("z", txt("z")))
	if c.Path[:4][3].Key != "behind" || c.V.L[:4][3].S != "behind" || c.V.O[:3][2].Key != "behind" {
		t.Error("memory behind a list was written to")
	}
	c.Path, c.V.L, c.V.O = c.Path[:0], c.V.L[:0], c.V.O[:0]
	got = comp.Copy(c)
	if cap(got.Path)+cap(got.V.L)+cap(got.V.O) > 0 {
		t.Error("memory behind an empty list")
	}
}
