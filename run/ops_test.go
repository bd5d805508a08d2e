package run_test

import (
	"math"
	"math/big"
	"testing"

	"outworker/api"
)

const (
	least    = math.MinInt64
	greatest = math.MaxInt64
)

// edges: numbers at which Ops might go wrong.
var edges = []int64{least, least + 1, -1 << 32, -65, -64, -7, -2, -1, 0, 1, 2, 3, 7, 63, 64, 65, 1 << 31, 1 << 32, greatest - 1, greatest}

// bin: the output of a function that does one Op on its two parameters.
func bin(t *testing.T, o api.Op, a, b int64) api.Output {
	t.Helper()
	f := one(2, 3, giving(2), api.Ins{Kind: api.KBin, Op: o, D: 2, A: 0, B: 1})
	return want(t, f, api.Input{Args: []int64{a, b}, Fuel: 5})
}

func TestOps(t *testing.T) {
	for _, c := range []struct {
		op         api.Op
		a, b, want int64
	}{
		{api.Add, 2, 3, 5},
		{api.Add, greatest, 1, least},
		{api.Sub, 2, 3, -1},
		{api.Sub, least, 1, greatest},
		{api.Sub, 0, least, least},
		{api.Mul, -4, 3, -12},
		{api.Mul, 1 << 32, 1 << 32, 0},
		{api.Mul, least, -1, least},
		{api.Mul, 3037000500, 3037000500, -9223372036709301616},
		{api.And, 12, 10, 8},
		{api.And, -1, least, least},
		{api.Xor, 12, 10, 6},
		{api.Xor, -1, 5, -6},
		{api.Less, 2, 3, 1},
		{api.Less, 3, 3, 0},
		{api.Less, 3, 2, 0},
		{api.Less, -1, 0, 1}, // not as unsigned
		{api.Less, 0, -1, 0},
		{api.Less, least, greatest, 1},
		{api.Less, greatest, least, 0},
		{api.Div, 7, 2, 3},
		{api.Div, -7, 2, -3}, // towards 0
		{api.Div, 7, -2, -3},
		{api.Div, -7, -2, 3},
		{api.Div, 1, 2, 0},
		{api.Div, -1, 2, 0},
		{api.Div, 0, 5, 0},
		{api.Div, least, -1, least},
		{api.Div, least, 1, least},
		{api.Div, least, least, 1},
		{api.Div, greatest, -1, -greatest},
	} {
		out := bin(t, c.op, c.a, c.b)
		if out.How != api.Returned || out.Value != c.want || out.Left != 3 {
			t.Errorf("P6.1: Op %d of %d and %d: ended %d, Value %d, Left %d; not Returned, %d, 3", c.op, c.a, c.b, out.How, out.Value, out.Left, c.want)
		}
	}
}

// exact: what an Op makes of two numbers, in numbers without end, and then gone round at 64 bits.
func exact(o api.Op, a, b int64) int64 {
	x, y, z := big.NewInt(a), big.NewInt(b), new(big.Int)
	switch o {
	case api.Add:
		z.Add(x, y)
	case api.Sub:
		z.Sub(x, y)
	case api.Mul:
		z.Mul(x, y)
	case api.And:
		z.And(x, y)
	case api.Xor:
		z.Xor(x, y)
	case api.Less:
		if x.Cmp(y) < 0 {
			z.SetInt64(1)
		}
	case api.Div:
		z.Quo(x, y)
	}
	round := new(big.Int).Lsh(big.NewInt(1), 64)
	return int64(z.Mod(z, round).Uint64())
}

func TestOpsAtEdges(t *testing.T) {
	for op := api.Add; op <= api.Div; op++ {
		for _, a := range edges {
			for _, b := range edges {
				if op == api.Div && b == 0 {
					continue
				}
				if out := bin(t, op, a, b); out.How != api.Returned || out.Value != exact(op, a, b) {
					t.Errorf("P6.1: Op %d of %d and %d: ended %d, Value %d, not %d", op, a, b, out.How, out.Value, exact(op, a, b))
				}
			}
		}
	}
}

func TestDivByNothing(t *testing.T) {
	for _, a := range edges {
		out := bin(t, api.Div, a, 0)
		if out.How != api.Trapped || out.Value != 0 || out.Left != 4 {
			t.Errorf("P6.1: %d by 0: ended %d, Value %d, Left %d; not Trapped, 0, 4", a, out.How, out.Value, out.Left)
		}
	}
}

func TestTrapKeepsWhatWasDone(t *testing.T) {
	f := one(1, 2, giving(0),
		api.Ins{Kind: api.KStore, A: 0, B: 0},
		api.Ins{Kind: api.KCall, D: 0, N: 8},
		api.Ins{Kind: api.KBin, Op: api.Div, D: 0, A: 0, B: 1},
		api.Ins{Kind: api.KStore, A: 1, B: 0},
		api.Ins{Kind: api.KCall, D: 0, N: 9},
	)
	out := want(t, f, api.Input{Args: []int64{5}, Answers: []int64{6}, Fuel: 9})
	if out.How != api.Trapped || out.Value != 0 || out.Left != 6 || len(out.Calls) != 1 || out.Calls[0].N != 8 || out.Mem[5] != 5 || out.Mem[0] != 0 {
		t.Errorf("P6.1: a run that is Trapped: %v", out)
	}
}

func TestTrapTakesFuelFirst(t *testing.T) {
	f := one(0, 1, giving(0), api.Ins{Kind: api.KBin, Op: api.Div})
	if out := want(t, f, api.Input{Fuel: 0}); out.How != api.Starved || out.Left != 0 {
		t.Errorf("P6.1: by 0, without fuel: ended %d, Left %d; not Starved, 0", out.How, out.Left)
	}
	if out := want(t, f, api.Input{Fuel: 1}); out.How != api.Trapped || out.Left != 0 {
		t.Errorf("P6.1: by 0, with fuel 1: ended %d, Left %d; not Trapped, 0", out.How, out.Left)
	}
}
