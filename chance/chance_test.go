package chance_test

import (
	"reflect"
	"testing"

	"commons/api"
	"commons/chance"
)

var mix = chance.Mix{Clients: 2, Skew: 1, Crashes: true, Paths: []string{"/", "/a"}}

func TestSameSeedSameSteps(t *testing.T) {
	a, b, c := chance.New(1), chance.New(1), chance.New(2)
	different := 0
	for range 1000 {
		x, y, z := mix.Step(a), mix.Step(b), mix.Step(c)
		if !reflect.DeepEqual(x, y) {
			t.Fatal(x, y)
		}
		if !reflect.DeepEqual(x, z) {
			different++
		}
	}
	if different < 500 {
		t.Error(different)
	}
}

func TestAllKinds(t *testing.T) {
	s := chance.New(3)
	ops, kinds := map[int]int{}, map[int]int{}
	for range 5000 {
		x := mix.Step(s)
		ops[x.Op]++
		if x.Op == api.StepCall {
			kinds[x.Call.Kind]++
		}
	}
	if len(ops) != 8 || ops[api.StepInject] != 0 || len(kinds) != 13 {
		t.Error(ops, kinds)
	}
}

func TestBounds(t *testing.T) {
	s := chance.New(4)
	calm := chance.Mix{Clients: 1, Paths: []string{"/a"}}
	for range 2000 {
		if n := s.Below(7); n < 0 || n > 6 {
			t.Fatal(n)
		}
		if b := s.Bytes(5); len(b) > 5 {
			t.Fatal(b)
		}
		x := calm.Step(s)
		if x.Op == api.StepCrash {
			t.Fatal(x)
		}
		for _, skew := range x.Skew {
			if skew != 0 {
				t.Fatal(x)
			}
		}
	}
}
