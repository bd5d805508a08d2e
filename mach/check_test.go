package mach_test

import (
	"math"
	"slices"
	"testing"

	"outworker/api"
	"outworker/mach"
)

var (
	back  = api.End{Kind: api.EReturn}
	plain = api.Ins{Kind: api.KConst, N: 7}
	none  = api.Fault{Code: api.ErrRange, Block: -1, At: -1}
	// far: numbers that are below no limit.
	far = []int{math.MinInt, -1, 64, 65, 4096, 1 << 32, 1<<32 + 1, math.MaxInt}
)

// checks: Check answers this.
func checks(t *testing.T, c api.Code, want api.Fault, why string) {
	t.Helper()
	if got := mach.Check(c); got != want {
		t.Errorf("P5.1: Check of %s: %+v, want %+v", why, got, want)
	}
}

// faulty: of one instruction, alone and behind others, in the first block and in a later one, Check tells this error there.
func faulty(t *testing.T, i api.Ins, regs, slots int, want api.Errno, why string) {
	t.Helper()
	c := api.Code{Regs: regs, Slots: slots, Blocks: []api.Block{{Ins: []api.Ins{i}, End: back}}}
	checks(t, c, api.Fault{Code: want}, why)
	right := api.Block{Ins: []api.Ins{plain, plain}, End: back}
	wrong := api.Block{Ins: []api.Ins{plain, plain, plain, i, plain}, End: back}
	at := api.Fault{Code: want, Block: 2, At: 3}
	if want == api.OK {
		at = api.Fault{}
	}
	c.Blocks = []api.Block{right, right, wrong, right}
	checks(t, c, at, why+", behind others")
}

// blocks: so many, each of nothing but a return.
func blocks(n int) []api.Block {
	return slices.Repeat([]api.Block{{End: back}}, n)
}

func TestCheckOfTheExample(t *testing.T) {
	faulty(t, api.Ins{Kind: api.KFill}, 3, 0, api.ErrSlot, "KFill D 0 A 0 with Regs 3, Slots 0")
	faulty(t, api.Ins{Kind: api.KFill}, 3, 1, api.OK, "KFill D 0 A 0 with Regs 3, Slots 1")
}

func TestCheckOfSizes(t *testing.T) {
	for _, s := range []struct {
		params, regs, slots, blocks int
		right                       bool
	}{
		{0, 3, 0, 1, true}, {4, 3, 4, 1, true}, {4, 8, 64, 16, true}, {0, 8, 64, 16, true}, {1, 4, 1, 2, true}, {3, 5, 4, 15, true},
		{-1, 3, 0, 1, false}, {-1, 3, -1, 1, false}, {5, 3, 5, 1, false}, {5, 8, 64, 1, false}, {math.MinInt, 3, 0, 1, false}, {math.MaxInt, 3, math.MaxInt, 1, false},
		{0, 2, 0, 1, false}, {0, 1, 0, 1, false}, {0, 0, 0, 1, false}, {0, -3, 0, 1, false}, {4, 2, 64, 16, false}, {0, 9, 0, 1, false}, {4, 9, 64, 16, false}, {0, 32, 0, 1, false}, {0, math.MinInt, 0, 1, false}, {0, math.MaxInt, 0, 1, false},
		{0, 3, -1, 1, false}, {1, 3, 0, 1, false}, {2, 3, 1, 1, false}, {4, 3, 3, 1, false}, {0, 3, 65, 1, false}, {4, 8, 65, 16, false}, {0, 3, math.MinInt, 1, false}, {0, 3, math.MaxInt, 1, false},
		{0, 3, 0, 0, false}, {0, 3, 0, 17, false}, {4, 8, 64, 17, false}, {0, 3, 0, 1000, false}, {-1, 2, -1, 0, false},
	} {
		want := none
		if s.right {
			want = api.Fault{}
		}
		c := api.Code{Params: s.params, Regs: s.regs, Slots: s.slots, Blocks: blocks(s.blocks)}
		checks(t, c, want, "sizes")
		if s.right {
			continue
		}
		for b := range c.Blocks {
			c.Blocks[b] = api.Block{Ins: make([]api.Ins, 401)}
		}
		checks(t, c, none, "sizes that aren't right, ahead of all that is in the blocks")
	}
	checks(t, api.Code{}, none, "nothing")
	checks(t, api.Code{Regs: 3, Blocks: []api.Block{}}, none, "an empty list of blocks")
}

func TestCheckOfManyInstructions(t *testing.T) {
	long := func(n int, i api.Ins) api.Block { return api.Block{Ins: slices.Repeat([]api.Ins{i}, n), End: back} }
	many := func(b int) api.Fault { return api.Fault{Code: api.ErrMany, Block: b, At: -1} }
	of := func(l ...api.Block) api.Code { return api.Code{Regs: 3, Slots: 1, Blocks: l} }
	fill := api.Ins{Kind: api.KFill}
	for _, n := range []int{0, 1, 32, 33, 64, 399, 400} {
		checks(t, of(long(n, plain), long(n, fill)), api.Fault{}, "as many instructions as may be")
	}
	for _, n := range []int{401, 402, 1000} {
		checks(t, of(long(n, plain)), many(0), "too many instructions")
		checks(t, of(long(n, fill)), many(0), "too many instructions that are Free")
		checks(t, of(long(400, plain), long(n, plain), long(n, plain)), many(1), "too many instructions in a later block")
		checks(t, of(long(n, api.Ins{})), many(0), "too many instructions, none of them right")
	}
	checks(t, of(api.Block{Ins: slices.Repeat([]api.Ins{plain}, 401)}), many(0), "too many instructions, and no end")
	checks(t, of(long(1, api.Ins{}), long(401, plain)), api.Fault{Code: api.ErrKind}, "too many instructions behind a block with another fault")
	checks(t, of(api.Block{Ins: []api.Ins{plain}}, long(401, plain)), api.Fault{Code: api.ErrKind, At: 1}, "too many instructions behind a block without an end")
	last := long(400, plain)
	last.Ins[399] = api.Ins{Kind: api.KMove, D: 3}
	checks(t, of(last), api.Fault{Code: api.ErrReg, At: 399}, "a fault at the last instruction that may be")
}

func TestCheckOfOtherKinds(t *testing.T) {
	for kind := range 256 {
		if kind >= 1 && kind <= 8 {
			continue
		}
		faulty(t, api.Ins{Kind: api.Kind(kind)}, 8, 64, api.ErrKind, "another kind")
		faulty(t, api.Ins{Kind: api.Kind(kind), Op: 1, D: 1, A: 1, B: 1, N: 1, Args: []int{1}}, 8, 64, api.ErrKind, "another kind, with all fields")
		faulty(t, api.Ins{Kind: api.Kind(kind), D: 99, Args: make([]int, 4)}, 8, 64, api.ErrKind, "another kind, and other faults")
	}
}

func TestCheckOfOps(t *testing.T) {
	for op := range 256 {
		want := api.ErrKind
		if op >= 1 && op <= 7 {
			want = api.OK
		}
		faulty(t, api.Ins{Kind: api.KBin, Op: api.Op(op), D: 2, A: 1}, 3, 0, want, "a KBin's Op")
		if op == 0 {
			continue
		}
		for kind := range named {
			if kind != api.KBin {
				faulty(t, api.Ins{Kind: kind, Op: api.Op(op)}, 3, 1, api.ErrKind, "an Op that should be 0")
			}
		}
	}
}

// What a field of an instruction is.
const (
	zero = iota
	register
	slot
)

// named: what the fields of each kind are, by the tables of chapters 4 and 5.
var named = map[api.Kind]struct {
	d, a, b int
	n, args bool
}{
	api.KConst: {d: register, n: true},
	api.KMove:  {d: register, a: register},
	api.KBin:   {d: register, a: register, b: register},
	api.KLoad:  {d: register, a: register},
	api.KStore: {a: register, b: register},
	api.KCall:  {d: register, n: true, args: true},
	api.KSpill: {d: slot, a: register},
	api.KFill:  {d: register, a: slot},
}

// least: the instruction of a kind whose fields are all 0, right where there is a slot.
func least(kind api.Kind) api.Ins {
	i := api.Ins{Kind: kind}
	if kind == api.KBin {
		i.Op = api.Add
	}
	return i
}

// fieldFault: what is answered, if a field that is such has this number, and all else is right.
func fieldFault(is, n, regs, slots int) api.Errno {
	switch {
	case is == zero && n != 0:
		return api.ErrKind
	case is == register && (n < 0 || n >= regs):
		return api.ErrReg
	case is == slot && (n < 0 || n >= slots):
		return api.ErrSlot
	}
	return api.OK
}

func TestCheckOfEachNumber(t *testing.T) {
	numbers := append([]int{0, 1, 2, 3, 4, 5, 6, 7, 8, 9, 31, 32, 62, 63}, far...)
	for kind, has := range named {
		for _, s := range [][2]int{{3, 1}, {3, 3}, {3, 8}, {4, 2}, {7, 64}, {8, 5}, {8, 63}, {8, 64}} {
			regs, slots := s[0], s[1]
			faulty(t, least(kind), regs, slots, api.OK, "the least instruction")
			for _, n := range numbers {
				i := least(kind)
				i.D = n
				faulty(t, i, regs, slots, fieldFault(has.d, n, regs, slots), "D")
				i = least(kind)
				i.A = n
				faulty(t, i, regs, slots, fieldFault(has.a, n, regs, slots), "A")
				i = least(kind)
				i.B = n
				faulty(t, i, regs, slots, fieldFault(has.b, n, regs, slots), "B")
			}
		}
	}
}

func TestCheckOfNAndArgs(t *testing.T) {
	for kind, has := range named {
		for _, n := range []int64{math.MinInt64, -1, 1, 3, 1 << 32, math.MaxInt64} {
			i := least(kind)
			i.N = n
			want := api.OK
			if !has.n {
				want = api.ErrKind
			}
			faulty(t, i, 3, 1, want, "N")
		}
		for n := 1; n < 6; n++ {
			i := least(kind)
			i.Args = make([]int, n)
			want := api.OK
			if !has.args {
				want = api.ErrKind
			} else if n > 3 {
				want = api.ErrArgs
			}
			faulty(t, i, 3, 1, want, "Args")
		}
		i := least(kind)
		i.Args = []int{}
		faulty(t, i, 3, 1, api.OK, "an empty list of Args (R5)")
		i.Args = make([]int, 0, 9)
		faulty(t, i, 3, 1, api.OK, "an empty list of Args with room behind it (R5)")
	}
}

func TestCheckOfArgs(t *testing.T) {
	for _, r := range append([]int{3, 4, 8}, far...) {
		for n := 1; n <= 3; n++ {
			for at := range n {
				args := make([]int, n)
				args[at] = r
				faulty(t, api.Ins{Kind: api.KCall, D: 1, N: -9, Args: args}, 3, 64, api.ErrReg, "a call with an arg that is no register")
			}
		}
	}
	faulty(t, api.Ins{Kind: api.KCall, D: 7, N: 1, Args: []int{7, 0, 7}}, 8, 0, api.OK, "a call with the last register twice")
	faulty(t, api.Ins{Kind: api.KCall, Args: make([]int, 1000)}, 3, 0, api.ErrArgs, "a call with 1000 Args")
	room := []int{0, 0, 99}
	faulty(t, api.Ins{Kind: api.KCall, Args: room[:2]}, 3, 0, api.OK, "a call with other numbers in the room behind its Args")
}

// Registers and slots are counted apart: neither's number says anything of the other's.
func TestCheckOfSpillsAndFills(t *testing.T) {
	for _, regs := range []int{3, 5, 8} {
		for _, slots := range []int{0, 1, 3, 8, 64} {
			for reg := -1; reg <= 9; reg++ {
				for slot := -1; slot <= 65; slot++ {
					want := api.OK
					if reg < 0 || reg >= regs {
						want = api.ErrReg
					} else if slot < 0 || slot >= slots {
						want = api.ErrSlot
					}
					for _, i := range []api.Ins{{Kind: api.KSpill, D: slot, A: reg}, {Kind: api.KFill, D: reg, A: slot}} {
						c := api.Code{Regs: regs, Slots: slots, Blocks: []api.Block{{Ins: []api.Ins{i}, End: back}}}
						checks(t, c, api.Fault{Code: want}, "a register and a slot")
					}
				}
			}
		}
	}
}

func TestCheckTellsTheFirstErrorOfAnInstruction(t *testing.T) {
	bad := []int{9, 9, 9, 9}
	for _, c := range []struct {
		i    api.Ins
		want api.Errno
		why  string
	}{
		{api.Ins{Kind: api.KCall, A: 1, Args: bad}, api.ErrKind, "a call with A, too many Args, no registers"},
		{api.Ins{Kind: api.KCall, D: 9, Args: bad}, api.ErrArgs, "a call with too many Args, no registers"},
		{api.Ins{Kind: api.KCall, D: 9, Args: bad[:3]}, api.ErrReg, "a call with no registers"},
		{api.Ins{Kind: api.KMove, D: 9, Args: bad}, api.ErrKind, "a move with four Args, no register"},
		{api.Ins{Kind: api.KBin, D: 9, A: 9, B: 9}, api.ErrKind, "a KBin without an Op, no registers"},
		{api.Ins{Kind: api.KStore, D: 1, A: 9}, api.ErrKind, "a store with D, no register"},
		{api.Ins{Kind: api.KConst, D: -1, B: -1}, api.ErrKind, "a constant with B, no register"},
		{api.Ins{Kind: api.KSpill, D: 9, A: 9}, api.ErrReg, "a spill of no register to no slot"},
		{api.Ins{Kind: api.KFill, D: 9, A: 9}, api.ErrReg, "a fill of no register from no slot"},
		{api.Ins{Kind: api.KSpill, D: 9, A: 2}, api.ErrSlot, "a spill to no slot"},
		{api.Ins{Kind: api.KFill, D: 2, A: 9}, api.ErrSlot, "a fill from no slot"},
		{api.Ins{Kind: api.KSpill, D: 9, A: 9, B: 1}, api.ErrKind, "a spill with B, no register, no slot"},
		{api.Ins{Kind: api.KFill, D: 9, A: 9, N: 1}, api.ErrKind, "a fill with N, no register, no slot"},
		{api.Ins{Kind: api.KSpill, D: 9, Op: api.Add}, api.ErrKind, "a spill with an Op, to no slot"},
		{api.Ins{Kind: api.KFill, D: 9, Args: bad}, api.ErrKind, "a fill with four Args, no register"},
		{api.Ins{Kind: api.KSpill, A: 9, Args: bad[:1]}, api.ErrKind, "a spill with an arg, no register"},
	} {
		faulty(t, c.i, 3, 2, c.want, c.why)
	}
}

func TestCheckOfEnds(t *testing.T) {
	for _, c := range []struct {
		end  api.End
		want api.Errno
	}{
		{api.End{}, api.ErrKind},
		{api.End{Kind: 4}, api.ErrKind},
		{api.End{Kind: 255}, api.ErrKind},
		{api.End{Kind: api.EJump, A: 1}, api.ErrKind},
		{api.End{Kind: api.EJump, Else: 1}, api.ErrKind},
		{api.End{Kind: api.EJump, A: 9, To: 9}, api.ErrKind},
		{api.End{Kind: api.EReturn, To: 1}, api.ErrKind},
		{api.End{Kind: api.EReturn, A: 9, Else: 1}, api.ErrKind},
		{api.End{Kind: api.EReturn, A: 3}, api.ErrReg},
		{api.End{Kind: api.EReturn, A: -1}, api.ErrReg},
		{api.End{Kind: api.EBranch, A: -1, To: 9}, api.ErrReg},
		{api.End{Kind: api.EBranch, A: 3, Else: 9}, api.ErrReg},
		{api.End{Kind: api.EJump, To: 3}, api.ErrBlock},
		{api.End{Kind: api.EJump, To: -1}, api.ErrBlock},
		{api.End{Kind: api.EBranch, A: 1, To: 2, Else: 3}, api.ErrBlock},
		{api.End{Kind: api.EBranch, A: 1, To: -1, Else: 2}, api.ErrBlock},
		{api.End{Kind: api.EBranch, A: 2, To: 2, Else: 0}, api.OK},
		{api.End{Kind: api.EJump, To: 2}, api.OK},
		{api.End{Kind: api.EReturn, A: 2}, api.OK},
	} {
		for b := range 3 {
			for _, n := range []int{0, 1, 33, 400} {
				code := api.Code{Regs: 3, Slots: 64, Blocks: blocks(3)}
				code.Blocks[b] = api.Block{Ins: slices.Repeat([]api.Ins{plain}, n), End: c.end}
				want := api.Fault{Code: c.want, Block: b, At: n}
				if c.want == api.OK {
					want = api.Fault{}
				}
				checks(t, code, want, "an end")
			}
		}
	}
}

func TestCheckTellsTheFirstFault(t *testing.T) {
	c := api.Code{Regs: 3, Slots: 2, Blocks: []api.Block{
		{Ins: []api.Ins{plain, {Kind: api.KSpill, D: 2}, {Kind: api.KFill, D: 3}, {}}},
		{Ins: []api.Ins{{Kind: api.KCall, Args: make([]int, 4)}}, End: back},
		{End: api.End{Kind: api.EJump, To: 5}},
		{Ins: make([]api.Ins, 401)},
		{End: back},
	}}
	checks(t, c, api.Fault{Code: api.ErrSlot, Block: 0, At: 1}, "many faults")
	c.Blocks[0].Ins[1] = plain
	checks(t, c, api.Fault{Code: api.ErrReg, Block: 0, At: 2}, "many faults but one")
	c.Blocks[0].Ins[2] = plain
	checks(t, c, api.Fault{Code: api.ErrKind, Block: 0, At: 3}, "many faults but two")
	c.Blocks[0].Ins[3] = plain
	checks(t, c, api.Fault{Code: api.ErrKind, Block: 0, At: 4}, "many faults but three")
	c.Blocks[0].End = back
	checks(t, c, api.Fault{Code: api.ErrArgs, Block: 1, At: 0}, "many faults but four")
	c.Blocks[1].Ins = nil
	checks(t, c, api.Fault{Code: api.ErrBlock, Block: 2, At: 0}, "many faults but five")
	c.Blocks[2].End.To = 4
	checks(t, c, api.Fault{Code: api.ErrMany, Block: 3, At: -1}, "many faults but six")
	c.Blocks[3].Ins = c.Blocks[3].Ins[:400]
	checks(t, c, api.Fault{Code: api.ErrKind, Block: 3, At: 0}, "many faults but seven")
	c.Blocks[3] = c.Blocks[4]
	checks(t, c, api.Fault{}, "no fault")
}

// greatest: code that is as great as code may be.
func greatest() api.Code {
	c := api.Code{Params: 4, Regs: 8, Slots: 64, Blocks: blocks(16)}
	for b := range c.Blocks {
		for range 100 {
			c.Blocks[b].Ins = append(c.Blocks[b].Ins,
				api.Ins{Kind: api.KFill, D: 7, A: 63},
				api.Ins{Kind: api.KBin, Op: api.Div, D: 7, A: 7, B: 7},
				api.Ins{Kind: api.KSpill, D: 63, A: 7},
				api.Ins{Kind: api.KCall, D: 7, N: math.MinInt64, Args: []int{7, 7, 7}})
		}
		c.Blocks[b].End = api.End{Kind: api.EBranch, A: 7, To: 15, Else: 15}
	}
	return c
}

func TestCheckOfTheGreatest(t *testing.T) {
	checks(t, greatest(), api.Fault{}, "the greatest code")
	c := greatest()
	c.Blocks[15].Ins[399].Args[2] = 8
	checks(t, c, api.Fault{Code: api.ErrReg, Block: 15, At: 399}, "the greatest code, its last arg no register")
	c = greatest()
	c.Blocks[15].Ins[398].D = 64
	checks(t, c, api.Fault{Code: api.ErrSlot, Block: 15, At: 398}, "the greatest code, its last spill to no slot")
	c = greatest()
	c.Blocks[15].End.Else = 16
	checks(t, c, api.Fault{Code: api.ErrBlock, Block: 15, At: 400}, "the greatest code, its last Else no block")
	c = greatest()
	c.Blocks[15].End.A = 8
	checks(t, c, api.Fault{Code: api.ErrReg, Block: 15, At: 400}, "the greatest code, its last end on no register")
}

func TestCheckOfTheLeast(t *testing.T) {
	// Code has registers always, and so a return is right without parameters, slots or instructions.
	checks(t, api.Code{Regs: 3, Blocks: blocks(1)}, api.Fault{}, "the least code")
	checks(t, api.Code{Regs: 3, Blocks: []api.Block{{End: api.End{Kind: api.EJump}}}}, api.Fault{}, "a jump alone")
}

// same: is this the same code, list by list?
func same(a, b api.Code) bool {
	return a.Params == b.Params && a.Regs == b.Regs && a.Slots == b.Slots && slices.EqualFunc(a.Blocks, b.Blocks, func(x, y api.Block) bool {
		return x.End == y.End && slices.EqualFunc(x.Ins, y.Ins, func(i, j api.Ins) bool {
			return i.Kind == j.Kind && i.Op == j.Op && i.D == j.D && i.A == j.A && i.B == j.B && i.N == j.N && slices.Equal(i.Args, j.Args)
		})
	})
}

func TestCheckLeavesWhatIsHandedIn(t *testing.T) {
	c := greatest()
	room := []int{1, 2, 3, 4}
	c.Blocks[0].Ins[3].Args = room[:2]
	spare := slices.Grow(c.Blocks[1].Ins, 1)
	behind := &spare[:401][400]
	behind.D = 77
	c.Blocks[1].Ins = spare
	want := greatest()
	want.Blocks[0].Ins[3].Args = []int{1, 2}
	first := mach.Check(c)
	if !same(c, want) || !slices.Equal(room, []int{1, 2, 3, 4}) || behind.D != 77 {
		t.Error("R6: Check changed what was handed in, or the room behind it")
	}
	checks(t, c, first, "the same once more (R8)")
	c.Blocks[0].Ins[3].Args[1] = 8
	checks(t, c, api.Fault{Code: api.ErrReg, At: 3}, "the same code, changed since (R6, R8)")
}
