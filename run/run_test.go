package run_test

import (
	"reflect"
	"slices"
	"testing"

	"outworker/api"
	"outworker/ir"
	"outworker/run"
)

func TestExamples(t *testing.T) {
	f := one(1, 1, giving(0), api.Ins{Kind: api.KBin, Op: api.Mul})
	if out := want(t, f, api.Input{Args: []int64{5}, Fuel: 9}); !reflect.DeepEqual(out, api.Output{How: api.Returned, Value: 25, Left: 7}) {
		t.Errorf("P6.1: the example: %v", out)
	}
	if out := want(t, f, api.Input{Args: []int64{5}, Fuel: 1}); !reflect.DeepEqual(out, api.Output{How: api.Starved}) {
		t.Errorf("P6.1: the example with Fuel 1: %v", out)
	}
}

func TestVregsAtFirst(t *testing.T) {
	args := []int64{11, 12, 13, 14}
	for v := range 32 {
		out := want(t, one(4, 32, giving(v)), api.Input{Args: args, Fuel: 1})
		if v < 4 && out.Value != args[v] || v >= 4 && out.Value != 0 {
			t.Errorf("P6.1: vreg %d is %d at first", v, out.Value)
		}
	}
}

func TestConstAndMove(t *testing.T) {
	f := one(1, 3, giving(2), api.Ins{Kind: api.KConst, D: 1, N: -8}, api.Ins{Kind: api.KMove, D: 2, A: 1}, api.Ins{Kind: api.KConst, D: 1, N: 9})
	if out := want(t, f, api.Input{Args: []int64{1}, Fuel: 9}); out.Value != -8 || out.Left != 6 {
		t.Errorf("P6.1: Value %d, Left %d; not -8, 6", out.Value, out.Left)
	}
}

func TestAnInstructionMayGiveWhatItTakes(t *testing.T) {
	ins := []api.Ins{
		{Kind: api.KMove, D: 0, A: 0},
		{Kind: api.KBin, Op: api.Add, D: 0, A: 0, B: 0},
		{Kind: api.KCall, D: 0, N: 1, Args: []int{0, 0, 0}},
		{Kind: api.KLoad, D: 0, A: 0},
	}
	out := want(t, one(1, 1, giving(0), ins...), api.Input{Args: []int64{5}, Answers: []int64{2}, Mem: []int64{7, 8, 9}, Fuel: 9})
	if out.Value != 9 || !reflect.DeepEqual(out.Calls, []api.Call{{N: 1, Args: []int64{10, 10, 10}}}) {
		t.Errorf("P6.1: Value %d, Calls %v", out.Value, out.Calls)
	}
}

func TestWordsOfTheMemory(t *testing.T) {
	load := one(1, 1, giving(0), api.Ins{Kind: api.KLoad})
	store := one(2, 2, giving(0), api.Ins{Kind: api.KStore, A: 0, B: 1})
	var mem [64]int64
	for n := range mem {
		mem[n] = int64(1000 + n)
	}
	for n, place := range map[int64]int{0: 0, 1: 1, 63: 63, 64: 0, 65: 1, 127: 63, -1: 63, -2: 62, -64: 0, -65: 63, least: 0, least + 5: 5, greatest: 63, greatest - 60: 3} {
		if out := want(t, load, api.Input{Args: []int64{n}, Mem: mem[:], Fuel: 9}); out.Value != mem[place] || out.Mem != mem {
			t.Errorf("P6.1: the word at %d is %d, not %d", n, out.Value, mem[place])
		}
		after := mem
		after[place] = -3
		if out := want(t, store, api.Input{Args: []int64{n, -3}, Mem: mem[:], Fuel: 9}); out.Mem != after || out.Value != n {
			t.Errorf("P6.1: -3 stored at %d: %v", n, out.Mem)
		}
	}
}

func TestMemoryAtFirst(t *testing.T) {
	f := one(0, 1, giving(0))
	for _, n := range []int{0, 1, 63, 64, 65, 300} {
		mem := make([]int64, n)
		var all [64]int64
		for at := range mem {
			mem[at] = int64(at + 1)
			if at < 64 {
				all[at] = mem[at]
			}
		}
		if out := want(t, f, api.Input{Mem: mem, Fuel: 1}); out.Mem != all {
			t.Errorf("P6.1: the memory of %d words is %v", n, out.Mem)
		}
	}
}

func TestCalls(t *testing.T) {
	ins := []api.Ins{
		{Kind: api.KCall, D: 2, N: -4},
		{Kind: api.KCall, D: 3, N: least, Args: []int{2}},
		{Kind: api.KCall, D: 2, N: 0, Args: []int{1, 0, 3}},
		{Kind: api.KCall, D: 3, N: 7, Args: []int{2, 2}},
		{Kind: api.KCall, D: 0, N: 7, Args: []int{3}},
	}
	calls := []api.Call{
		{N: -4},
		{N: least, Args: []int64{60}},
		{N: 0, Args: []int64{6, 5, -70}},
		{N: 7, Args: []int64{0, 0}}, // 0, for want of answers
		{N: 7, Args: []int64{0}},
	}
	out := want(t, one(2, 4, giving(0), ins...), api.Input{Args: []int64{5, 6}, Answers: []int64{60, -70}, Fuel: 9})
	for n := range out.Calls {
		if len(out.Calls[n].Args) == 0 { // R5
			out.Calls[n].Args = nil
		}
	}
	if !reflect.DeepEqual(out.Calls, calls) || out.Value != 0 || out.Left != 3 {
		t.Errorf("P6.1: Calls %v, Value %d, Left %d", out.Calls, out.Value, out.Left)
	}
}

func TestAnswersThatAreLeft(t *testing.T) {
	out := want(t, one(0, 1, giving(0), api.Ins{Kind: api.KCall}), api.Input{Answers: []int64{1, 2, 3}, Fuel: 9})
	if out.Value != 1 || len(out.Calls) != 1 {
		t.Errorf("P6.1: Value %d, Calls %v", out.Value, out.Calls)
	}
}

func TestEnds(t *testing.T) {
	// Block 0 branches on its parameter to 2 or 1; both jump to 3.
	f := api.Func{Params: 1, Vregs: 2, Blocks: []api.Block{
		{End: api.End{Kind: api.EBranch, A: 0, To: 2, Else: 1}},
		{Ins: []api.Ins{{Kind: api.KConst, D: 1, N: 100}}, End: api.End{Kind: api.EJump, To: 3}},
		{Ins: []api.Ins{{Kind: api.KConst, D: 1, N: 200}}, End: api.End{Kind: api.EJump, To: 3}},
		{End: giving(1)},
	}}
	for n, value := range map[int64]int64{0: 100, 1: 200, -1: 200, least: 200, 1 << 32: 200} {
		if out := want(t, f, api.Input{Args: []int64{n}, Fuel: 9}); out.How != api.Returned || out.Value != value || out.Left != 5 {
			t.Errorf("P6.1: on %d: ended %d, Value %d, Left %d; not Returned, %d, 5", n, out.How, out.Value, out.Left, value)
		}
	}
}

// sum: adds its parameter, the one below it, and so on, with a word stored each time.
func sum() api.Func {
	return api.Func{Params: 1, Vregs: 3, Blocks: []api.Block{
		{Ins: []api.Ins{{Kind: api.KConst, D: 2, N: 1}}, End: api.End{Kind: api.EJump, To: 1}},
		{End: api.End{Kind: api.EBranch, A: 0, To: 2, Else: 3}},
		{Ins: []api.Ins{
			{Kind: api.KBin, Op: api.Add, D: 1, A: 1, B: 0},
			{Kind: api.KStore, A: 0, B: 1},
			{Kind: api.KBin, Op: api.Sub, D: 0, A: 0, B: 2},
		}, End: api.End{Kind: api.EJump, To: 1}},
		{End: giving(1)},
	}}
}

func TestLoop(t *testing.T) {
	// 2 things ahead of the loop, 5 a round, 2 behind it.
	out := want(t, sum(), api.Input{Args: []int64{100}, Fuel: 600})
	if out.How != api.Returned || out.Value != 5050 || out.Left != 600-504 {
		t.Errorf("P6.1: the sum to 100: ended %d, Value %d, Left %d", out.How, out.Value, out.Left)
	}
}

func TestStarvedAtEachPlace(t *testing.T) {
	whole := want(t, sum(), api.Input{Args: []int64{3}, Fuel: 100})
	cost := 100 - whole.Left
	for fuel := range cost {
		out := want(t, sum(), api.Input{Args: []int64{3}, Fuel: fuel})
		var mem [64]int64
		for n, at := range []int{4, 9, 14} { // as many things are done when the words are stored
			if fuel >= at+1 {
				mem[3-n] = []int64{3, 5, 6}[n]
			}
		}
		if !reflect.DeepEqual(out, api.Output{How: api.Starved, Mem: mem}) {
			t.Errorf("P6.1: with Fuel %d of %d: %v", fuel, cost, out)
		}
	}
	if out := want(t, sum(), api.Input{Args: []int64{3}, Fuel: cost}); out.How != api.Returned || out.Value != 6 || out.Left != 0 {
		t.Errorf("P6.1: with just the fuel that it costs: %v", out)
	}
}

func TestStarvedAheadOfACall(t *testing.T) {
	f := one(0, 1, giving(0), api.Ins{Kind: api.KConst, N: 1}, api.Ins{Kind: api.KCall, N: 2})
	if out := want(t, f, api.Input{Fuel: 1}); out.How != api.Starved || len(out.Calls) != 0 {
		t.Errorf("P6.1: a call is noted without fuel: %v", out)
	}
	if out := want(t, f, api.Input{Fuel: 2}); out.How != api.Starved || len(out.Calls) != 1 || out.Value != 0 {
		t.Errorf("P6.1: a call is not noted: %v", out)
	}
}

func TestMovesAreFree(t *testing.T) {
	var moves []api.Ins
	for range 32 {
		moves = append(moves, api.Ins{Kind: api.KMove, D: 1, A: 0})
	}
	if out := want(t, one(1, 2, giving(1), moves...), api.Input{Args: []int64{4}, Fuel: 1}); out.How != api.Returned || out.Value != 4 || out.Left != 0 {
		t.Errorf("P6.1: 32 KMoves with Fuel 1: %v", out)
	}
	if out := want(t, one(1, 2, giving(1), moves...), api.Input{Args: []int64{4}}); out.How != api.Starved || out.Left != 0 {
		t.Errorf("P6.1: 32 KMoves with Fuel 0: %v", out)
	}
}

func TestEveryOtherKindCostsOne(t *testing.T) {
	for _, i := range []api.Ins{
		{Kind: api.KConst, N: 5},
		{Kind: api.KBin, Op: api.Add},
		{Kind: api.KLoad},
		{Kind: api.KStore},
		{Kind: api.KCall, Args: []int{0, 0, 0}},
	} {
		f := one(0, 1, giving(0), i)
		for fuel := range 3 {
			out := want(t, f, api.Input{Fuel: fuel})
			if fuel < 2 && out.How != api.Starved || fuel == 2 && out.How != api.Returned || out.Left != 0 {
				t.Errorf("P6.1: kind %d with Fuel %d: ended %d, Left %d", i.Kind, fuel, out.How, out.Left)
			}
		}
	}
}

func TestEndlessLoopsStarve(t *testing.T) {
	for _, f := range []api.Func{
		one(0, 0, api.End{Kind: api.EJump}),
		one(1, 1, api.End{Kind: api.EBranch}),
		one(1, 1, api.End{Kind: api.EJump}, api.Ins{Kind: api.KMove}),
	} {
		in := api.Input{Args: make([]int64, f.Params), Fuel: 1 << 20}
		if out := want(t, f, in); out.How != api.Starved || out.Left != 0 {
			t.Errorf("P1: an endless loop ended %d, Left %d", out.How, out.Left)
		}
	}
}

func TestManyCalls(t *testing.T) {
	f := one(0, 1, api.End{Kind: api.EJump}, api.Ins{Kind: api.KCall, N: 3, Args: []int{0}})
	out := want(t, f, api.Input{Answers: []int64{9}, Fuel: 1 << 20})
	if out.How != api.Starved || len(out.Calls) != 1<<19 || out.Calls[1].Args[0] != 9 || out.Calls[1<<19-1].Args[0] != 0 {
		t.Errorf("P6.1: %d calls", len(out.Calls))
	}
}

func TestNothingIsChangedOrShared(t *testing.T) {
	f := one(2, 3, giving(2),
		api.Ins{Kind: api.KCall, D: 0, N: 5, Args: []int{0, 1}},
		api.Ins{Kind: api.KStore, A: 1, B: 0},
		api.Ins{Kind: api.KCall, D: 1, N: 6, Args: []int{0, 1}},
	)
	room := []int64{1, 2, 3, 4, 5, 6, 7, 8}
	in := api.Input{Args: room[0:2], Mem: room[2:4], Answers: room[4:6], Fuel: 9}
	again := ir.Copied(f.Blocks[0])
	first := want(t, f, in)
	if !slices.Equal(room, []int64{1, 2, 3, 4, 5, 6, 7, 8}) || !reflect.DeepEqual(f.Blocks[0], again) {
		t.Errorf("R6: what was handed in has changed: %v, %v", room, f)
	}
	kept := []api.Call{{N: 5, Args: []int64{1, 2}}, {N: 6, Args: []int64{5, 2}}}
	for n := range room {
		room[n] = -1
	}
	f.Blocks[0].Ins[0].Args[0] = 2
	_ = append(first.Calls[0].Args, 77)
	if !reflect.DeepEqual(first.Calls, kept) || first.Mem[0] != 3 {
		t.Errorf("R6: an output has changed: %v", first)
	}
}

func TestRunsAreAlike(t *testing.T) {
	in := api.Input{Args: []int64{9}, Fuel: 40}
	if a, b := want(t, sum(), in), want(t, sum(), in); !reflect.DeepEqual(a, b) {
		t.Errorf("R8: %v, then %v", a, b)
	}
	if a, b := want(t, sum(), in), run.Do(sum().Blocks, 3, 0, 0, in); !reflect.DeepEqual(a, b) {
		t.Errorf("P6.2: Run %v, Do %v", a, b)
	}
}
