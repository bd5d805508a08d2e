package run_test

import (
	"math"
	"reflect"
	"testing"

	"outworker/api"
	"outworker/run"
)

// block: blocks of one.
func block(end api.End, ins ...api.Ins) []api.Block { return []api.Block{{Ins: ins, End: end}} }

func TestFillsAndSpills(t *testing.T) {
	// Chapter 7's example: the parameter stands in slot 0.
	l := block(giving(1), api.Ins{Kind: api.KFill, D: 2, A: 0}, api.Ins{Kind: api.KBin, Op: api.Mul, D: 1, A: 2, B: 2})
	out := run.Do(l, 3, 1, 3, api.Input{Args: []int64{5}, Fuel: 9})
	if !reflect.DeepEqual(out, api.Output{How: api.Returned, Value: 25, Left: 7}) {
		t.Errorf("P6.2: the parameter in a slot: %v", out)
	}
	l = block(giving(2),
		api.Ins{Kind: api.KConst, D: 0, N: 8},
		api.Ins{Kind: api.KSpill, D: 4, A: 0},
		api.Ins{Kind: api.KConst, D: 0, N: 9},
		api.Ins{Kind: api.KFill, D: 2, A: 4},
	)
	if out := run.Do(l, 3, 5, 0, api.Input{Fuel: 3}); out.How != api.Returned || out.Value != 8 || out.Left != 0 {
		t.Errorf("P6.2: a register spilled and filled: %v", out)
	}
}

func TestFillsAndSpillsAreFree(t *testing.T) {
	var ins []api.Ins
	for range 200 {
		ins = append(ins, api.Ins{Kind: api.KSpill, D: 1, A: 0}, api.Ins{Kind: api.KFill, D: 1, A: 1})
	}
	in := api.Input{Args: []int64{6}, Fuel: 1}
	if out := run.Do(block(giving(1), ins...), 3, 2, 0, in); out.How != api.Returned || out.Value != 6 || out.Left != 0 {
		t.Errorf("P6.2: 400 KSpills and KFills with Fuel 1: %v", out)
	}
}

func TestSlotsAndRegistersAreNotTheSame(t *testing.T) {
	for slot := range 64 {
		for regs := 3; regs <= 8; regs++ {
			// What each register has is asked behind a KSpill: none of them has changed.
			for reg := range regs {
				ins := []api.Ins{{Kind: api.KConst, D: 0, N: 5}, {Kind: api.KSpill, D: slot, A: 0}, {Kind: api.KConst, D: 0, N: 0}}
				if out := run.Do(block(giving(reg), ins...), regs, 64, regs, api.Input{Fuel: 9}); out.Value != 0 {
					t.Fatalf("P6.2: a KSpill to slot %d changes register %d of %d", slot, reg, regs)
				}
			}
			ins := []api.Ins{{Kind: api.KConst, D: 0, N: 5}, {Kind: api.KSpill, D: slot, A: 0}, {Kind: api.KFill, D: 1, A: slot}}
			if out := run.Do(block(giving(1), ins...), regs, 64, regs, api.Input{Fuel: 9}); out.Value != 5 {
				t.Fatalf("P6.2: slot %d behind %d registers has %d, not 5", slot, regs, out.Value)
			}
		}
	}
}

func TestArgumentsFromFirstOn(t *testing.T) {
	const regs, slots = 4, 6
	args := []int64{11, 12, 13}
	for first := 0; first+len(args) <= regs+slots; first++ {
		for place := range regs + slots {
			l := block(giving(place % regs))
			if place >= regs {
				l = block(giving(0), api.Ins{Kind: api.KFill, D: 0, A: place - regs})
			}
			value := int64(0)
			if place >= first && place < first+len(args) {
				value = args[place-first]
			}
			if out := run.Do(l, regs, slots, first, api.Input{Args: args, Fuel: 1}); out.Value != value {
				t.Errorf("P6.2: with the arguments from %d on, place %d has %d, not %d", first, place, out.Value, value)
			}
		}
	}
}

func TestManyVregsAndSlots(t *testing.T) {
	// Blocks that are being allocated have more vregs than a function may have.
	l := block(giving(510), api.Ins{Kind: api.KConst, D: 511, N: 3}, api.Ins{Kind: api.KSpill, D: 299, A: 511}, api.Ins{Kind: api.KFill, D: 510, A: 299})
	if out := run.Do(l, 512, 300, 512, api.Input{Args: []int64{1, 2}, Fuel: 2}); out.How != api.Returned || out.Value != 3 {
		t.Errorf("P6.2: 512 vregs and 300 slots: %v", out)
	}
}

func TestFuelOfDo(t *testing.T) {
	l := block(api.End{Kind: api.EJump})
	for _, fuel := range []int{0, 1, 1 << 20} {
		if out := run.Do(l, 3, 0, 3, api.Input{Fuel: fuel}); out.How != api.Starved || out.Left != 0 {
			t.Errorf("P6.2: an endless loop with Fuel %d: ended %d, Left %d", fuel, out.How, out.Left)
		}
	}
	if out := run.Do(block(giving(0)), 3, 0, 3, api.Input{Fuel: 1 << 20}); out.How != api.Returned || out.Left != 1<<20-1 {
		t.Errorf("P6.2: with Fuel 2^20: ended %d, Left %d", out.How, out.Left)
	}
}

func TestDoEndsWhateverItIsGiven(t *testing.T) {
	l := block(giving(2))
	loop := block(api.End{Kind: api.EJump})
	for _, n := range []int{math.MinInt, -1, 0, 1, 2, 3, 4, 1 << 40, math.MaxInt} {
		for _, args := range [][]int64{nil, {5}, {5, 6, 7, 8}} {
			in := api.Input{Args: args, Fuel: 1}
			if out := run.Do(l, 3, n, 3, in); out.How != api.Returned || out.Value != 0 {
				t.Errorf("P1: Do with %d slots: %v", n, out)
			}
			if out := run.Do(l, 3, 0, n, in); out.How != api.Returned {
				t.Errorf("P1: Do with arguments from %d on: %v", n, out)
			}
		}
		if out := run.Do(loop, 3, 0, 0, api.Input{Fuel: n}); out.How != api.Starved || out.Left != 0 {
			t.Errorf("P1: Do with Fuel %d: ended %d, Left %d", n, out.How, out.Left)
		}
	}
}
