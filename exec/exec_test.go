package exec_test

import (
	"reflect"
	"slices"
	"testing"

	"outworker/api"
	"outworker/exec"
	"outworker/ir"
	"outworker/run"
)

// one: code of one block.
func one(params, regs, slots int, end api.End, ins ...api.Ins) api.Code {
	return api.Code{Params: params, Regs: regs, Slots: slots, Blocks: []api.Block{{Ins: ins, End: end}}}
}

// giving: an end that returns what a register has.
func giving(a int) api.End { return api.End{Kind: api.EReturn, A: a} }

// spill: the slot d is the register a.
func spill(d, a int) api.Ins { return api.Ins{Kind: api.KSpill, D: d, A: a} }

// fill: the register d is the slot a.
func fill(d, a int) api.Ins { return api.Ins{Kind: api.KFill, D: d, A: a} }

// want: the output of code that is right, with an input that is right.
func want(t *testing.T, c api.Code, in api.Input) api.Output {
	t.Helper()
	out, e := exec.Exec(c, in)
	if e != api.OK {
		t.Fatalf("P7.1: Exec(%v, %v) answers error %d", c, in, e)
	}
	return out
}

// square: the code of the example.
func square() api.Code {
	return one(1, 3, 1, giving(1), fill(2, 0), api.Ins{Kind: api.KBin, Op: api.Mul, D: 1, A: 2, B: 2})
}

func TestExample(t *testing.T) {
	for fuel, right := range map[int]api.Output{
		9: {How: api.Returned, Value: 25, Left: 7},
		2: {How: api.Returned, Value: 25},
		1: {How: api.Starved},
		0: {How: api.Starved},
	} {
		if out := want(t, square(), api.Input{Args: []int64{5}, Fuel: fuel}); !reflect.DeepEqual(out, right) {
			t.Errorf("P7.1: the example with Fuel %d: %v, not %v", fuel, out, right)
		}
	}
}

func TestRegistersAtFirst(t *testing.T) {
	for regs := 3; regs <= 8; regs++ {
		for r := range regs {
			c := one(4, regs, 64, giving(r))
			if out := want(t, c, api.Input{Args: []int64{11, 12, 13, 14}, Fuel: 1}); out.How != api.Returned || out.Value != 0 {
				t.Errorf("P7.1: register %d of %d is %d at first", r, regs, out.Value)
			}
		}
	}
}

func TestSlotsAtFirst(t *testing.T) {
	args := []int64{11, 12, 13, 14}
	for params := range 5 {
		for regs := 3; regs <= 8; regs++ {
			for s := range 64 {
				c := one(params, regs, 64, giving(regs-1), fill(regs-1, s))
				out := want(t, c, api.Input{Args: args[:params], Fuel: 1})
				if s < params && out.Value != args[s] || s >= params && out.Value != 0 {
					t.Errorf("P7.1: of %d parameters and %d registers slot %d is %d at first", params, regs, s, out.Value)
				}
			}
		}
	}
}

func TestParametersThatNobodyFills(t *testing.T) {
	c := one(4, 3, 4, giving(0), api.Ins{Kind: api.KConst, D: 0, N: 6})
	if out := want(t, c, api.Input{Args: []int64{1, 2, 3, 4}, Fuel: 2}); !reflect.DeepEqual(out, api.Output{How: api.Returned, Value: 6}) {
		t.Errorf("P7.1: %v", out)
	}
}

func TestSlotsAndRegistersAreApart(t *testing.T) {
	// Each register and each slot is given a number of its own, slots by way of register 0; then one of them is asked.
	var ins []api.Ins
	for s := range 64 {
		ins = append(ins, api.Ins{Kind: api.KConst, D: 0, N: int64(100 + s)}, spill(s, 0))
	}
	for r := range 8 {
		ins = append(ins, api.Ins{Kind: api.KConst, D: r, N: int64(r)})
	}
	in := api.Input{Args: []int64{-1, -2, -3, -4}, Fuel: 1000}
	for r := range 8 {
		if out := want(t, one(4, 8, 64, giving(r), ins...), in); out.Value != int64(r) {
			t.Errorf("P7.1: register %d has %d", r, out.Value)
		}
	}
	for s := range 64 {
		c := one(4, 8, 64, giving(s%8), slices.Concat(ins, []api.Ins{fill(s%8, s)})...)
		if out := want(t, c, in); out.Value != int64(100+s) {
			t.Errorf("P7.1: slot %d has %d", s, out.Value)
		}
	}
}

func TestASpillOverAParameter(t *testing.T) {
	c := one(2, 3, 2, giving(2), fill(0, 1), spill(0, 0), fill(2, 0))
	if out := want(t, c, api.Input{Args: []int64{7, 8}, Fuel: 1}); out.Value != 8 {
		t.Errorf("P7.1: slot 0 has %d, not 8", out.Value)
	}
}

func TestSpillsFillsAndMovesAreFree(t *testing.T) {
	var ins []api.Ins
	for range 133 {
		ins = append(ins, fill(1, 0), spill(0, 1), api.Ins{Kind: api.KMove, D: 2, A: 1})
	}
	c := one(1, 3, 1, giving(2), ins...)
	if out := want(t, c, api.Input{Args: []int64{4}, Fuel: 1}); !reflect.DeepEqual(out, api.Output{How: api.Returned, Value: 4}) {
		t.Errorf("P7.1: with Fuel 1: %v", out)
	}
	if out := want(t, c, api.Input{Args: []int64{4}}); !reflect.DeepEqual(out, api.Output{How: api.Starved}) {
		t.Errorf("P7.1: with Fuel 0: %v", out)
	}
}

func TestMemoryAndCalls(t *testing.T) {
	c := one(2, 3, 3, giving(1),
		fill(0, 0),
		api.Ins{Kind: api.KLoad, D: 1, A: 0},
		spill(2, 1),
		fill(1, 1),
		api.Ins{Kind: api.KCall, D: 2, N: -9, Args: []int{1, 0}},
		api.Ins{Kind: api.KStore, A: 1, B: 2},
		fill(1, 2),
	)
	out := want(t, c, api.Input{Args: []int64{65, -1}, Mem: []int64{3, 4}, Answers: []int64{50}, Fuel: 9})
	right := api.Output{How: api.Returned, Value: 4, Left: 5, Calls: []api.Call{{N: -9, Args: []int64{-1, 65}}}}
	right.Mem[0], right.Mem[1], right.Mem[63] = 3, 4, 50
	if !reflect.DeepEqual(out, right) {
		t.Errorf("P7.1: %v, not %v", out, right)
	}
}

func TestTrapped(t *testing.T) {
	c := one(1, 3, 1, giving(0), fill(0, 0), api.Ins{Kind: api.KStore, A: 1, B: 0}, api.Ins{Kind: api.KBin, Op: api.Div, D: 0, A: 0, B: 2})
	right := api.Output{How: api.Trapped, Left: 7}
	right.Mem[0] = 5
	if out := want(t, c, api.Input{Args: []int64{5}, Fuel: 9}); !reflect.DeepEqual(out, right) {
		t.Errorf("P7.1: %v, not %v", out, right)
	}
}

// sum: adds its parameter, the one below it, and so on; what it keeps from round to round is in slots.
func sum() api.Code {
	return api.Code{Params: 1, Regs: 3, Slots: 2, Blocks: []api.Block{
		{Ins: []api.Ins{fill(2, 0)}, End: api.End{Kind: api.EBranch, A: 2, To: 1, Else: 2}},
		{Ins: []api.Ins{
			fill(0, 1),
			{Kind: api.KBin, Op: api.Add, D: 0, A: 0, B: 2},
			spill(1, 0),
			{Kind: api.KConst, D: 1, N: 1},
			{Kind: api.KBin, Op: api.Sub, D: 2, A: 2, B: 1},
			spill(0, 2),
		}, End: api.End{Kind: api.EJump, To: 0}},
		{Ins: []api.Ins{fill(1, 1)}, End: giving(1)},
	}}
}

func TestLoop(t *testing.T) {
	// 5 things a round, 2 behind the last.
	if out := want(t, sum(), api.Input{Args: []int64{100}, Fuel: 600}); !reflect.DeepEqual(out, api.Output{How: api.Returned, Value: 5050, Left: 98}) {
		t.Errorf("P7.1: the sum to 100: %v", out)
	}
	if out := want(t, sum(), api.Input{Args: []int64{100}, Fuel: 501}); !reflect.DeepEqual(out, api.Output{How: api.Starved}) {
		t.Errorf("P7.1: the sum to 100 with Fuel 501: %v", out)
	}
}

func TestEndlessCodeStarves(t *testing.T) {
	c := one(0, 3, 1, api.End{Kind: api.EJump}, spill(0, 1), fill(2, 0))
	if out := want(t, c, api.Input{Fuel: api.MaxFuel}); !reflect.DeepEqual(out, api.Output{How: api.Starved}) {
		t.Errorf("P1: endless code: %v", out)
	}
}

func TestCodeOfAFunctionRunsAsIt(t *testing.T) {
	// Code whose parameters are filled into its first registers is the function itself.
	f := api.Func{Params: 2, Vregs: 4, Blocks: []api.Block{
		{Ins: []api.Ins{{Kind: api.KCall, D: 2, N: 1, Args: []int{0, 1}}}, End: api.End{Kind: api.EBranch, A: 2, To: 1, Else: 2}},
		{Ins: []api.Ins{{Kind: api.KBin, Op: api.Div, D: 3, A: 0, B: 1}, {Kind: api.KStore, A: 3, B: 2}}, End: api.End{Kind: api.EJump, To: 2}},
		{End: giving(3)},
	}}
	c := api.Code{Params: 2, Regs: 4, Slots: 2, Blocks: []api.Block{ir.Copied(f.Blocks[0]), f.Blocks[1], f.Blocks[2]}}
	c.Blocks[0].Ins = slices.Insert(c.Blocks[0].Ins, 0, fill(0, 0), fill(1, 1))
	for _, b := range []int64{0, 1, -3} {
		for _, answer := range []int64{0, 6} {
			for fuel := range 8 {
				in := api.Input{Args: []int64{70, b}, Answers: []int64{answer}, Fuel: fuel}
				right, e := run.Run(f, in)
				if out := want(t, c, in); e != api.OK || !reflect.DeepEqual(out, right) {
					t.Errorf("P7.1: with %v code: %v, its function: %v, error %d", in, out, right, e)
				}
			}
		}
	}
}

func TestNothingIsChangedOrShared(t *testing.T) {
	c := one(2, 3, 3, giving(0),
		fill(0, 0), fill(1, 1),
		api.Ins{Kind: api.KCall, D: 2, N: 5, Args: []int{0, 1}},
		spill(0, 2), spill(2, 2),
		api.Ins{Kind: api.KStore, A: 1, B: 2},
	)
	room := []int64{1, 2, 3, 4, 5, 6, 7, 8}
	in := api.Input{Args: room[0:2], Mem: room[2:4], Answers: room[4:6], Fuel: 9}
	again := ir.Copied(c.Blocks[0])
	out := want(t, c, in)
	if !slices.Equal(room, []int64{1, 2, 3, 4, 5, 6, 7, 8}) || !reflect.DeepEqual(c.Blocks[0], again) {
		t.Errorf("R6: what was handed in has changed: %v, %v", room, c)
	}
	for n := range room {
		room[n] = -1
	}
	c.Blocks[0].Ins[2].Args[0] = 2
	right := api.Output{How: api.Returned, Value: 1, Left: 6, Calls: []api.Call{{N: 5, Args: []int64{1, 2}}}}
	right.Mem[0], right.Mem[1], right.Mem[2] = 3, 4, 5
	if !reflect.DeepEqual(out, right) {
		t.Errorf("R6: an output is %v, not %v", out, right)
	}
}

func TestRunsAreAlike(t *testing.T) {
	in := api.Input{Args: []int64{9}, Fuel: 40}
	if a, b := want(t, sum(), in), want(t, sum(), in); !reflect.DeepEqual(a, b) {
		t.Errorf("R8: %v, then %v", a, b)
	}
}
