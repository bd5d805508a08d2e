package mach_test

import (
	"math"
	"testing"

	"outworker/api"
	"outworker/mach"
)

func TestFreeOfEachKind(t *testing.T) {
	for kind := range 256 {
		want := kind == 2 || kind == 7 || kind == 8
		for _, i := range []api.Ins{
			{Kind: api.Kind(kind)},
			{Kind: api.Kind(kind), Op: api.Div, D: 1, A: 2, B: 3, N: 4, Args: []int{5}},
			{Kind: api.Kind(kind), Op: 255, D: -1, A: math.MinInt, B: math.MaxInt, N: math.MinInt64, Args: make([]int, 1000)},
		} {
			if got := mach.Free(i); got != want {
				t.Errorf("P5.1: Free of kind %d: %v, want %v, whatever its other fields", kind, got, want)
			}
		}
	}
}

func TestFreeAsksTheKindAlone(t *testing.T) {
	for op := range 256 {
		if !mach.Free(api.Ins{Kind: api.KFill, Op: api.Op(op)}) || mach.Free(api.Ins{Kind: api.KBin, Op: api.Op(op)}) {
			t.Errorf("P5.1: Free hangs on Op %d", op)
		}
	}
}
