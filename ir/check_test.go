package ir_test

import (
	"math"
	"slices"
	"testing"

	"outworker/api"
	"outworker/ir"
)

var (
	back  = api.End{Kind: api.EReturn}
	plain = api.Ins{Kind: api.KConst, N: 7}
)

// checks: Check answers this.
func checks(t *testing.T, f api.Func, want api.Fault, why string) {
	t.Helper()
	if got := ir.Check(f); got != want {
		t.Errorf("P4.2: Check of %s: %+v, want %+v", why, got, want)
	}
}

// one: a function of one block with these instructions, and so many vregs.
func one(vregs int, l ...api.Ins) api.Func {
	return api.Func{Vregs: vregs, Blocks: []api.Block{{Ins: l, End: back}}}
}

// faulty: of one instruction, alone and behind others, in the first block and in a later one, Check tells this error there.
func faulty(t *testing.T, i api.Ins, vregs int, want api.Errno, why string) {
	t.Helper()
	checks(t, one(vregs, i), api.Fault{Code: want}, why)
	if vregs < 1 {
		return // nothing right could stand ahead
	}
	right := api.Block{Ins: []api.Ins{plain, plain}, End: back}
	wrong := api.Block{Ins: []api.Ins{plain, plain, plain, i, plain}, End: back}
	at := api.Fault{Code: want, Block: 2, At: 3}
	if want == api.OK {
		at = api.Fault{}
	}
	checks(t, api.Func{Vregs: vregs, Blocks: []api.Block{right, right, wrong, right}}, at, why+", behind others")
}

// blocks: so many, each of nothing but a return.
func blocks(n int) []api.Block {
	l := make([]api.Block, n)
	for b := range l {
		l[b].End = back
	}
	return l
}

func TestCheckOfTheExamples(t *testing.T) {
	plus := api.Ins{Kind: api.KBin, Op: api.Add, D: 1}
	faulty(t, plus, 2, api.OK, "KBin Add D 1 A 0 B 0 with Vregs 2")
	faulty(t, plus, 1, api.ErrVreg, "KBin Add D 1 A 0 B 0 with Vregs 1")
	faulty(t, api.Ins{Kind: api.KMove, N: 3}, 1, api.ErrKind, "a KMove with N 3")
}

func TestCheckOfSizes(t *testing.T) {
	none := api.Fault{Code: api.ErrRange, Block: -1, At: -1}
	for _, c := range []struct {
		params, vregs, blocks int
		right                 bool
	}{
		{0, 1, 1, true}, {0, 32, 16, true}, {4, 4, 1, true}, {4, 32, 16, true}, {1, 1, 1, true}, {3, 4, 2, true},
		{-1, 1, 1, false}, {5, 5, 1, false}, {5, 32, 1, false}, {math.MinInt, 1, 1, false}, {math.MaxInt, math.MaxInt, 1, false},
		{0, -1, 1, false}, {1, 0, 1, false}, {4, 3, 1, false}, {2, 1, 1, false}, {0, 33, 1, false}, {4, 33, 1, false}, {0, math.MaxInt, 1, false}, {0, math.MinInt, 1, false},
		{0, 1, 0, false}, {0, 1, 17, false}, {4, 32, 17, false}, {0, 1, 1000, false}, {-1, -1, 1, false}, {-1, -1, 0, false}, {0, 0, 0, false},
	} {
		want := none
		if c.right {
			want = api.Fault{}
		}
		f := api.Func{Params: c.params, Vregs: c.vregs, Blocks: blocks(c.blocks)}
		checks(t, f, want, "sizes")
		if c.right {
			continue
		}
		for b := range f.Blocks {
			f.Blocks[b] = api.Block{Ins: make([]api.Ins, 33)}
		}
		checks(t, f, none, "sizes that aren't right, ahead of all that is in the blocks")
	}
	checks(t, api.Func{}, none, "nothing")
	checks(t, api.Func{Vregs: 1, Blocks: []api.Block{}}, none, "an empty list of blocks")
}

func TestCheckOfNoVregs(t *testing.T) {
	// Without vregs nothing can return: just to go on and on is right.
	checks(t, api.Func{Blocks: []api.Block{{End: api.End{Kind: api.EJump}}}}, api.Fault{}, "a jump alone, without vregs")
	checks(t, api.Func{Blocks: blocks(1)}, api.Fault{Code: api.ErrVreg}, "a return, without vregs")
	checks(t, api.Func{Blocks: []api.Block{{Ins: []api.Ins{{Kind: api.KCall}}, End: api.End{Kind: api.EJump}}}}, api.Fault{Code: api.ErrVreg}, "a call, without vregs")
}

func TestCheckOfManyInstructions(t *testing.T) {
	long := func(n int, i api.Ins) api.Block { return api.Block{Ins: slices.Repeat([]api.Ins{i}, n), End: back} }
	many := func(b int) api.Fault { return api.Fault{Code: api.ErrMany, Block: b, At: -1} }
	for _, n := range []int{0, 1, 31, 32} {
		checks(t, api.Func{Vregs: 1, Blocks: []api.Block{long(n, plain), long(n, plain)}}, api.Fault{}, "as many instructions as may be")
	}
	for _, n := range []int{33, 34, 64, 400, 1000} {
		checks(t, api.Func{Vregs: 1, Blocks: []api.Block{long(n, plain)}}, many(0), "too many instructions")
		checks(t, api.Func{Vregs: 1, Blocks: []api.Block{long(32, plain), long(n, plain), long(n, plain)}}, many(1), "too many instructions in a later block")
		checks(t, api.Func{Vregs: 1, Blocks: []api.Block{long(n, api.Ins{})}}, many(0), "too many instructions, none of them right")
	}
	checks(t, api.Func{Vregs: 1, Blocks: []api.Block{{Ins: slices.Repeat([]api.Ins{plain}, 33)}}}, many(0), "too many instructions, and no end")
	checks(t, api.Func{Vregs: 1, Blocks: []api.Block{long(1, api.Ins{}), long(33, plain)}}, api.Fault{Code: api.ErrKind}, "too many instructions behind a block with another fault")
	checks(t, api.Func{Vregs: 1, Blocks: []api.Block{{Ins: []api.Ins{plain}}, long(33, plain)}}, api.Fault{Code: api.ErrKind, At: 1}, "too many instructions behind a block without an end")
}

func TestCheckOfOtherKinds(t *testing.T) {
	for kind := range 256 {
		if kind >= 1 && kind <= 6 {
			continue
		}
		faulty(t, api.Ins{Kind: api.Kind(kind)}, 32, api.ErrKind, "another kind")
		faulty(t, api.Ins{Kind: api.Kind(kind), Op: 1, D: 1, A: 1, B: 1, N: 1, Args: []int{1}}, 32, api.ErrKind, "another kind, with all fields")
		faulty(t, api.Ins{Kind: api.Kind(kind), D: 99, Args: make([]int, 4)}, 32, api.ErrKind, "another kind, and other faults")
	}
}

func TestCheckOfOps(t *testing.T) {
	for op := range 256 {
		want := api.ErrKind
		if op >= 1 && op <= 7 {
			want = api.OK
		}
		faulty(t, api.Ins{Kind: api.KBin, Op: api.Op(op), D: 2, A: 1}, 3, want, "a KBin's Op")
		if op == 0 {
			continue
		}
		for kind := 1; kind <= 6; kind++ {
			if api.Kind(kind) != api.KBin {
				faulty(t, api.Ins{Kind: api.Kind(kind), Op: api.Op(op)}, 3, api.ErrKind, "an Op that should be 0")
			}
		}
	}
}

// named: which fields a kind names, by the chapter's table; D, A, B are vregs.
var named = map[api.Kind]struct{ d, a, b, n, args bool }{
	api.KConst: {d: true, n: true},
	api.KMove:  {d: true, a: true},
	api.KBin:   {d: true, a: true, b: true},
	api.KLoad:  {d: true, a: true},
	api.KStore: {a: true, b: true},
	api.KCall:  {d: true, n: true, args: true},
}

// least: the right instruction of a kind whose fields are all 0.
func least(kind api.Kind) api.Ins {
	i := api.Ins{Kind: kind}
	if kind == api.KBin {
		i.Op = api.Add
	}
	return i
}

// vregFault: what an instruction with this vreg in a field is answered, of so many vregs.
func vregFault(isNamed bool, v, vregs int) api.Errno {
	switch {
	case v == 0:
		return api.OK
	case !isNamed:
		return api.ErrKind
	case v < 0 || v >= vregs:
		return api.ErrVreg
	}
	return api.OK
}

func TestCheckOfEachField(t *testing.T) {
	for kind, has := range named {
		faulty(t, least(kind), 1, api.OK, "the least instruction")
		for _, vregs := range []int{1, 2, 31, 32} {
			for _, v := range []int{math.MinInt, -1, 0, 1, 2, 30, 31, 32, 33, 1 << 32, 1<<32 + 1, math.MaxInt} {
				i := least(kind)
				i.D = v
				faulty(t, i, vregs, vregFault(has.d, v, vregs), "D")
				i = least(kind)
				i.A = v
				faulty(t, i, vregs, vregFault(has.a, v, vregs), "A")
				i = least(kind)
				i.B = v
				faulty(t, i, vregs, vregFault(has.b, v, vregs), "B")
			}
		}
		for _, n := range []int64{math.MinInt64, -1, 1, 3, math.MaxInt64} {
			i := least(kind)
			i.N = n
			want := api.OK
			if !has.n {
				want = api.ErrKind
			}
			faulty(t, i, 1, want, "N")
		}
		for n := 1; n < 6; n++ {
			i := least(kind)
			i.Args = make([]int, n)
			want := api.OK
			if !has.args {
				want = api.ErrKind
			} else if n > 3 {
				want = api.ErrArgs
			}
			faulty(t, i, 1, want, "Args")
		}
		i := least(kind)
		i.Args = []int{}
		faulty(t, i, 1, api.OK, "an empty list of Args (R5)")
		i.Args = make([]int, 0, 9)
		faulty(t, i, 1, api.OK, "an empty list of Args with room behind it (R5)")
	}
}

func TestCheckOfArgs(t *testing.T) {
	for _, v := range []int{math.MinInt, -1, 2, 32, math.MaxInt} {
		for n := 1; n <= 3; n++ {
			for at := range n {
				args := make([]int, n)
				args[at] = v
				faulty(t, api.Ins{Kind: api.KCall, D: 1, N: -9, Args: args}, 2, api.ErrVreg, "a call with an arg that is no vreg")
			}
		}
	}
	faulty(t, api.Ins{Kind: api.KCall, D: 31, N: 1, Args: []int{31, 0, 31}}, 32, api.OK, "a call with the last vreg twice")
	faulty(t, api.Ins{Kind: api.KCall, Args: make([]int, 1000)}, 1, api.ErrArgs, "a call with 1000 Args")
	room := []int{0, 0, 99}
	faulty(t, api.Ins{Kind: api.KCall, Args: room[:2]}, 1, api.OK, "a call with other numbers in the room behind its Args")
}

func TestCheckTellsTheFirstErrorOfAnInstruction(t *testing.T) {
	bad := []int{9, 9, 9, 9}
	faulty(t, api.Ins{Kind: api.KCall, A: 1, Args: bad}, 2, api.ErrKind, "a call with A, too many Args, no vregs")
	faulty(t, api.Ins{Kind: api.KCall, D: 9, Args: bad}, 2, api.ErrArgs, "a call with too many Args, no vregs")
	faulty(t, api.Ins{Kind: api.KCall, D: 9, Args: bad[:3]}, 2, api.ErrVreg, "a call with no vregs")
	faulty(t, api.Ins{Kind: api.KMove, D: 9, Args: bad}, 2, api.ErrKind, "a move with four Args, no vreg")
	faulty(t, api.Ins{Kind: api.KBin, D: 9, A: 9, B: 9}, 2, api.ErrKind, "a KBin without an Op, no vregs")
	faulty(t, api.Ins{Kind: api.KBin, Op: 8, D: -1, A: -1, B: -1}, 2, api.ErrKind, "a KBin with Op 8, no vregs")
	faulty(t, api.Ins{Kind: api.KStore, D: 1, A: 9}, 2, api.ErrKind, "a store with D, no vreg")
	faulty(t, api.Ins{Kind: api.KConst, D: -1, B: -1}, 2, api.ErrKind, "a constant with B, no vreg")
	faulty(t, api.Ins{Kind: api.KLoad, D: -1, N: -1}, 2, api.ErrKind, "a load with N, no vreg")
}

func TestCheckOfEnds(t *testing.T) {
	for _, c := range []struct {
		end  api.End
		want api.Errno
	}{
		{api.End{}, api.ErrKind},
		{api.End{Kind: 4}, api.ErrKind},
		{api.End{Kind: api.EJump, A: 1}, api.ErrKind},
		{api.End{Kind: api.EReturn, To: 1}, api.ErrKind},
		{api.End{Kind: api.EReturn, A: 2}, api.ErrVreg},
		{api.End{Kind: api.EBranch, A: -1, To: 9}, api.ErrVreg},
		{api.End{Kind: api.EJump, To: 3}, api.ErrBlock},
		{api.End{Kind: api.EBranch, A: 1, To: 2, Else: 3}, api.ErrBlock},
		{api.End{Kind: api.EBranch, A: 1, To: -1, Else: 2}, api.ErrBlock},
		{api.End{Kind: api.EBranch, A: 1, To: 2, Else: 0}, api.OK},
		{api.End{Kind: api.EJump, To: 2}, api.OK},
		{api.End{Kind: api.EReturn, A: 1}, api.OK},
	} {
		for b := range 3 {
			for _, n := range []int{0, 1, 32} {
				f := api.Func{Vregs: 2, Blocks: blocks(3)}
				f.Blocks[b] = api.Block{Ins: slices.Repeat([]api.Ins{plain}, n), End: c.end}
				want := api.Fault{Code: c.want, Block: b, At: n}
				if c.want == api.OK {
					want = api.Fault{}
				}
				checks(t, f, want, "an end")
			}
		}
	}
}

func TestCheckTellsTheFirstFault(t *testing.T) {
	wrong := api.Ins{Kind: api.KMove, A: 9}
	f := api.Func{Vregs: 1, Blocks: []api.Block{
		{Ins: []api.Ins{plain, wrong, {}}},
		{Ins: []api.Ins{{Kind: api.KCall, Args: make([]int, 4)}}, End: back},
		{End: api.End{Kind: api.EJump, To: 5}},
		{Ins: make([]api.Ins, 33)},
		{End: back},
	}}
	checks(t, f, api.Fault{Code: api.ErrVreg, Block: 0, At: 1}, "many faults")
	f.Blocks[0].Ins[1] = plain
	checks(t, f, api.Fault{Code: api.ErrKind, Block: 0, At: 2}, "many faults but one")
	f.Blocks[0].Ins[2] = plain
	checks(t, f, api.Fault{Code: api.ErrKind, Block: 0, At: 3}, "many faults but two")
	f.Blocks[0].End = back
	checks(t, f, api.Fault{Code: api.ErrArgs, Block: 1, At: 0}, "many faults but three")
	f.Blocks[1].Ins = nil
	checks(t, f, api.Fault{Code: api.ErrBlock, Block: 2, At: 0}, "many faults but four")
	f.Blocks[2].End.To = 4
	checks(t, f, api.Fault{Code: api.ErrMany, Block: 3, At: -1}, "many faults but five")
	f.Blocks[3].Ins = f.Blocks[3].Ins[:32]
	checks(t, f, api.Fault{Code: api.ErrKind, Block: 3, At: 0}, "many faults but six")
	f.Blocks[3] = f.Blocks[4]
	checks(t, f, api.Fault{}, "no fault")
}

func TestCheckOfTheGreatest(t *testing.T) {
	f := api.Func{Params: 4, Vregs: 32, Blocks: blocks(16)}
	for b := range f.Blocks {
		for range 32 {
			f.Blocks[b].Ins = append(f.Blocks[b].Ins, api.Ins{Kind: api.KCall, D: 31, N: math.MinInt64, Args: []int{31, 31, 31}})
		}
		f.Blocks[b].End = api.End{Kind: api.EBranch, A: 31, To: 15, Else: 15}
	}
	checks(t, f, api.Fault{}, "the greatest function")
	f.Blocks[15].Ins[31].Args[2] = 32
	checks(t, f, api.Fault{Code: api.ErrVreg, Block: 15, At: 31}, "the greatest function, its last arg no vreg")
	f.Blocks[15].Ins[31].Args[2] = 31
	f.Blocks[15].End.Else = 16
	checks(t, f, api.Fault{Code: api.ErrBlock, Block: 15, At: 32}, "the greatest function, its last Else no block")
}

func TestCheckLeavesWhatIsHandedIn(t *testing.T) {
	b := mixed()
	f := api.Func{Vregs: 32, Blocks: []api.Block{{Ins: []api.Ins{{Kind: api.KCall, Args: []int{3, 1, 2}}}, End: back}, b}}
	first := ir.Check(f)
	if !alike(f.Blocks[1], mixed()) || !slices.Equal(f.Blocks[0].Ins[0].Args, []int{3, 1, 2}) {
		t.Error("R6: Check changed what was handed in")
	}
	checks(t, f, first, "the same once more (R8)")
}
