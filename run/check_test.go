package run_test

import (
	"math"
	"reflect"
	"testing"

	"outworker/api"
	"outworker/run"
)

// one: a function of one block.
func one(params, vregs int, end api.End, ins ...api.Ins) api.Func {
	return api.Func{Params: params, Vregs: vregs, Blocks: []api.Block{{Ins: ins, End: end}}}
}

// giving: an end that returns what a place has.
func giving(a int) api.End { return api.End{Kind: api.EReturn, A: a} }

// want: the output of a function that is right, with an input that is right.
func want(t *testing.T, f api.Func, in api.Input) api.Output {
	t.Helper()
	out, e := run.Run(f, in)
	if e != api.OK {
		t.Fatalf("P6.1: Run(%v, %v) answers error %d", f, in, e)
	}
	return out
}

func TestCheck(t *testing.T) {
	for _, c := range []struct {
		params, args, fuel int
		want               api.Errno
	}{
		{0, 0, 0, api.OK},
		{1, 1, 9, api.OK},
		{4, 4, 1 << 20, api.OK},
		{9, 9, 1, api.OK}, // how many parameters there may be is no business of an input
		{1, 0, 9, api.ErrArgs},
		{1, 2, 9, api.ErrArgs},
		{0, 1, 9, api.ErrArgs},
		{-1, 0, 9, api.ErrArgs},
		{-1, 1, 9, api.ErrArgs},
		{0, 0, -1, api.ErrRange},
		{0, 0, 1<<20 + 1, api.ErrRange},
		{0, 0, math.MinInt, api.ErrRange},
		{0, 0, math.MaxInt, api.ErrRange},
		{1, 0, -1, api.ErrArgs}, // R2: ahead of ErrRange
		{0, 3, 1<<20 + 1, api.ErrArgs},
	} {
		in := api.Input{Args: make([]int64, c.args), Fuel: c.fuel}
		if got := run.Check(c.params, in); got != c.want {
			t.Errorf("P6.1: Check(%d) with %d Args and Fuel %d is %d, not %d", c.params, c.args, c.fuel, got, c.want)
		}
	}
}

func TestCheckLooksAtNothingElse(t *testing.T) {
	in := api.Input{Mem: make([]int64, 1000), Answers: make([]int64, 1000), Fuel: 1}
	if e := run.Check(0, in); e != api.OK {
		t.Errorf("P6.1: Check with long Mem and Answers is %d", e)
	}
}

func TestRunErrors(t *testing.T) {
	right := one(1, 2, giving(0), api.Ins{Kind: api.KConst, D: 1, N: 7})
	wrong := map[string]api.Func{
		"no block":          {Params: 1, Vregs: 1},
		"the zero function": {},
		"a wrong vreg":      one(1, 1, giving(1)),
		"a wrong block":     one(1, 1, api.End{Kind: api.EJump, To: 1}),
		"a wrong kind":      one(1, 1, giving(0), api.Ins{Kind: 9}),
		"a KSpill":          one(1, 1, giving(0), api.Ins{Kind: api.KSpill}),
		"a KFill":           one(1, 1, giving(0), api.Ins{Kind: api.KFill}),
		"too many params":   one(5, 5, giving(0)),
		"params below 0":    one(-1, 5, giving(0)),
	}
	inputs := []api.Input{
		{Args: []int64{1}, Fuel: 9},
		{Fuel: 9},
		{Args: []int64{1}, Fuel: -1},
		{Fuel: 1<<20 + 1},
	}
	wants := []api.Errno{api.OK, api.ErrArgs, api.ErrRange, api.ErrArgs}
	for n, in := range inputs {
		out, e := run.Run(right, in)
		if e != wants[n] {
			t.Errorf("P6.1: Run with input %v answers error %d, not %d", in, e, wants[n])
		}
		if e != api.OK && !reflect.DeepEqual(out, api.Output{}) {
			t.Errorf("R3: Run answers %v beside error %d", out, e)
		}
		for name, f := range wrong {
			if out, e := run.Run(f, in); e != api.ErrShape || !reflect.DeepEqual(out, api.Output{}) {
				t.Errorf("P6.1: Run of a function with %s, input %v, answers error %d and %v, not ErrShape", name, in, e, out)
			}
		}
	}
}

func TestRunTakesAFaultAtTheVeryFirstPlace(t *testing.T) {
	// The fault of such a function stands at block 0, place 0: all but its Code is as of no fault.
	f := one(0, 1, giving(0), api.Ins{Kind: api.KMove, N: 3})
	if _, e := run.Run(f, api.Input{Fuel: 9}); e != api.ErrShape {
		t.Errorf("P6.1: Run answers error %d, not ErrShape", e)
	}
}

func TestRunTakesNoArguments(t *testing.T) {
	f := one(0, 1, giving(0))
	if out := want(t, f, api.Input{Args: []int64{}, Fuel: 1}); out.How != api.Returned || out.Value != 0 || out.Left != 0 {
		t.Errorf("P6.1: a function without parameters: %v", out)
	}
}
