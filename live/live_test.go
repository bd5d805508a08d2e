package live_test

import (
	"slices"
	"testing"

	"outworker/api"
	"outworker/bag"
	"outworker/ir"
	"outworker/live"
)

// constant, move, add, load, store, call, spill, fill: instructions of each kind.
func constant(d int) api.Ins               { return api.Ins{Kind: api.KConst, D: d, N: 7} }
func move(d, a int) api.Ins                { return api.Ins{Kind: api.KMove, D: d, A: a} }
func add(d, a, b int) api.Ins              { return api.Ins{Kind: api.KBin, Op: api.Add, D: d, A: a, B: b} }
func load(d, a int) api.Ins                { return api.Ins{Kind: api.KLoad, D: d, A: a} }
func store(a, b int) api.Ins               { return api.Ins{Kind: api.KStore, A: a, B: b} }
func call(d int, args ...int) api.Ins      { return api.Ins{Kind: api.KCall, D: d, N: 9, Args: args} }
func spill(slot, a int) api.Ins            { return api.Ins{Kind: api.KSpill, D: slot, A: a} }
func fill(d, slot int) api.Ins             { return api.Ins{Kind: api.KFill, D: d, A: slot} }
func jump(to int) api.End                  { return api.End{Kind: api.EJump, To: to} }
func branch(a, to, other int) api.End      { return api.End{Kind: api.EBranch, A: a, To: to, Else: other} }
func back(a int) api.End                   { return api.End{Kind: api.EReturn, A: a} }
func of(e api.End, l ...api.Ins) api.Block { return api.Block{Ins: l, End: e} }

// lists: what sets have.
func lists(l []bag.Set[int]) [][]int {
	var all [][]int
	for _, s := range l {
		all = append(all, s.All())
	}
	return all
}

// expect: sets have just these numbers.
func expect(t *testing.T, what string, l []bag.Set[int], want ...[]int) {
	t.Helper()
	if got := lists(l); !slices.EqualFunc(got, want, slices.Equal) {
		t.Errorf("%s: %v, want %v", what, got, want)
	}
}

// shape is blocks, and what the chapter's words say of them.
type shape struct {
	name    string
	blocks  []api.Block
	in, out [][]int
}

// rows: blocks one behind the other, without a way back.
func rows() []shape {
	return []shape{
		{"the chapter's example", []api.Block{of(jump(1), constant(0)), of(back(0))}, [][]int{{}, {0}}, [][]int{{0}, {}}},
		{"one block that returns", []api.Block{of(back(3))}, [][]int{{3}}, [][]int{{}}},
		{"what is given ahead of it isn't needed", []api.Block{of(back(3), constant(3))}, [][]int{{}}, [][]int{{}}},
		{"what another one is given is", []api.Block{of(back(3), constant(2))}, [][]int{{3}}, [][]int{{}}},
		{"taken, then given", []api.Block{of(back(0), move(1, 0), constant(0))}, [][]int{{0}}, [][]int{{}}},
		{"given, then taken", []api.Block{of(back(1), constant(0), move(1, 0))}, [][]int{{}}, [][]int{{}}},
		{"taken and given in one", []api.Block{of(back(0), add(0, 0, 0))}, [][]int{{0}}, [][]int{{}}},
		{"what is given isn't needed by anyone", []api.Block{of(back(2), move(0, 1))}, [][]int{{1, 2}}, [][]int{{}}},
		{"given twice", []api.Block{of(jump(1), constant(0), constant(0)), of(back(0))}, [][]int{{}, {0}}, [][]int{{0}, {}}},
		{"through a block that doesn't name it", []api.Block{of(jump(1)), of(jump(2), constant(5)), of(back(4))}, [][]int{{4}, {4}, {4}}, [][]int{{4}, {4}, {}}},
		{"stopped by a block that gives it", []api.Block{of(jump(1)), of(jump(2), constant(4)), of(back(4))}, [][]int{{}, {}, {4}}, [][]int{{}, {4}, {}}},
		{"a row turned round", []api.Block{of(jump(2)), of(back(1)), of(jump(1), move(1, 6))}, [][]int{{6}, {1}, {6}}, [][]int{{6}, {}, {1}}},
		{"an end that takes isn't needed behind itself", []api.Block{of(branch(2, 1, 1)), of(back(0))}, [][]int{{0, 2}, {0}}, [][]int{{0}, {}}},
		{"one of two ways takes it", []api.Block{of(branch(0, 1, 2)), of(back(1)), of(back(2), constant(2))}, [][]int{{0, 1}, {1}, {}}, [][]int{{1}, {}, {}}},
		{"the other one takes it", []api.Block{of(branch(0, 2, 1)), of(back(1)), of(back(2), constant(2))}, [][]int{{0, 1}, {1}, {}}, [][]int{{1}, {}, {}}},
		{"each way takes another one", []api.Block{of(branch(0, 1, 2), constant(0)), of(back(1)), of(back(2))}, [][]int{{1, 2}, {1}, {2}}, [][]int{{1, 2}, {}, {}}},
		{"given on one of two ways", []api.Block{of(branch(0, 1, 2)), of(jump(3), constant(1)), of(jump(3)), of(back(1))}, [][]int{{0, 1}, {}, {1}, {1}}, [][]int{{1}, {1}, {1}, {}}},
		{"given on both ways", []api.Block{of(branch(0, 1, 2)), of(jump(3), constant(1)), of(jump(3), load(1, 2)), of(back(1))}, [][]int{{0, 2}, {}, {2}, {1}}, [][]int{{2}, {1}, {1}, {}}},
		{"a block that isn't come to", []api.Block{of(back(0)), of(jump(0), move(1, 5))}, [][]int{{0}, {0, 5}}, [][]int{{}, {0}}},
	}
}

// loops: blocks with ways back.
func loops() []shape {
	return []shape{
		{"a loop that takes nothing", []api.Block{of(jump(0), constant(1))}, [][]int{{}}, [][]int{{}}},
		{"a loop takes its own", []api.Block{of(jump(0), add(1, 1, 2))}, [][]int{{1, 2}}, [][]int{{1, 2}}},
		{"taken on the next round", []api.Block{of(jump(0), move(2, 1), constant(1))}, [][]int{{1}}, [][]int{{1}}},
		{"given on each round ahead of it", []api.Block{of(jump(0), constant(1), move(2, 1))}, [][]int{{}}, [][]int{{}}},
		{"needed at the end of a loop of one", []api.Block{of(branch(3, 0, 1)), of(back(4))}, [][]int{{3, 4}, {4}}, [][]int{{3, 4}, {}}},
		{"a loop with its way out behind", []api.Block{of(jump(1), constant(0), constant(1)), of(branch(0, 2, 3)), of(jump(1), add(0, 0, 2)), of(back(1))},
			[][]int{{2}, {0, 1, 2}, {0, 1, 2}, {1}}, [][]int{{0, 1, 2}, {0, 1, 2}, {0, 1, 2}, {}}},
		{"a way round the loop gives it", []api.Block{of(jump(1), constant(0)), of(branch(0, 2, 3)), of(jump(1), constant(0)), of(back(1))},
			[][]int{{1}, {0, 1}, {1}, {1}}, [][]int{{0, 1}, {1}, {0, 1}, {}}},
		{"a way back far up", []api.Block{of(jump(1), constant(0)), of(jump(2)), of(jump(3), constant(1)), of(branch(1, 1, 4)), of(back(0))},
			[][]int{{}, {0}, {0}, {0, 1}, {0}}, [][]int{{0}, {0}, {0, 1}, {0}, {}}},
		{"two loops that never end", []api.Block{of(branch(0, 1, 2)), of(jump(1), store(1, 3)), of(jump(2), store(2, 4))}, [][]int{{0, 1, 2, 3, 4}, {1, 3}, {2, 4}}, [][]int{{1, 2, 3, 4}, {1, 3}, {2, 4}}},
		{"a loop with two ways in", []api.Block{of(branch(0, 1, 2)), of(jump(2), constant(1)), of(jump(1), move(3, 1))}, [][]int{{0, 1}, {}, {1}}, [][]int{{1}, {1}, {}}},
		{"a loop that isn't come to", []api.Block{of(back(0)), of(jump(2), load(1, 1)), of(jump(1), store(2, 2))}, [][]int{{0}, {1, 2}, {1, 2}}, [][]int{{}, {1, 2}, {1, 2}}},
	}
}

func TestShapesAreOfFunctions(t *testing.T) {
	for _, s := range append(rows(), loops()...) {
		if fault := ir.Check(api.Func{Vregs: api.MaxVregs, Blocks: s.blocks}); fault != (api.Fault{}) {
			t.Errorf("R9: %s: Check = %v", s.name, fault)
		}
	}
}

func TestOf(t *testing.T) {
	for _, s := range append(rows(), loops()...) {
		in, out := live.Of(s.blocks)
		expect(t, "P12.1: "+s.name+": at the beginning", in, s.in...)
		expect(t, "P12.1: "+s.name+": behind the end", out, s.out...)
	}
}

func TestKinds(t *testing.T) {
	for _, c := range []struct {
		name  string
		ins   api.Ins
		ahead []int // with 1, 2 and 3 needed behind
	}{
		{"KConst", constant(1), []int{2, 3}},
		{"KConst of another one", constant(8), []int{1, 2, 3}},
		{"KMove", move(1, 5), []int{2, 3, 5}},
		{"KMove of itself", move(1, 1), []int{1, 2, 3}},
		{"KBin", add(1, 5, 6), []int{2, 3, 5, 6}},
		{"KBin of itself", add(2, 5, 2), []int{1, 2, 3, 5}},
		{"KLoad", load(1, 5), []int{2, 3, 5}},
		{"KLoad of itself", load(1, 1), []int{1, 2, 3}},
		{"KStore", store(5, 6), []int{1, 2, 3, 5, 6}},
		{"KStore of one that is needed", store(1, 2), []int{1, 2, 3}},
		{"KCall of nothing", call(1), []int{2, 3}},
		{"KCall", call(1, 5, 6, 4), []int{2, 3, 4, 5, 6}},
		{"KCall of itself", call(1, 6, 6, 1), []int{1, 2, 3, 6}},
		{"KSpill: its D is a slot", spill(1, 5), []int{1, 2, 3, 5}},
		{"KSpill of one that is needed", spill(9, 2), []int{1, 2, 3}},
		{"KFill: its A is a slot", fill(1, 5), []int{2, 3}},
		{"KFill from a slot of its number", fill(1, 1), []int{2, 3}},
		{"KFill of another one", fill(9, 1), []int{1, 2, 3}},
	} {
		in, out := live.Of([]api.Block{of(jump(1), c.ins), of(back(1), store(2, 3))})
		expect(t, "P12.1: "+c.name, in, c.ahead, []int{1, 2, 3})
		expect(t, "P12.1: "+c.name, out, []int{1, 2, 3}, nil)
		got := live.Behind(of(jump(0), constant(31), c.ins), bag.Of(1, 2, 3))
		expect(t, "P12.1: Behind: "+c.name, got, c.ahead, []int{1, 2, 3})
	}
}

func TestEnds(t *testing.T) {
	for _, c := range []struct {
		name string
		end  api.End
		want []int
	}{
		{"EJump takes nothing", jump(1), []int{4, 6}},
		{"EBranch", branch(5, 1, 2), []int{4, 5, 6}},
		{"EBranch of one that is needed", branch(6, 1, 2), []int{4, 6}},
		{"EBranch of vreg 0", branch(0, 0, 0), []int{0, 4, 6}},
		{"EReturn", back(31), []int{4, 6, 31}},
		{"EReturn of vreg 0", back(0), []int{0, 4, 6}},
	} {
		expect(t, "P12.1: Behind: "+c.name, live.Behind(of(c.end, constant(9)), bag.Of(4, 6)), c.want)
	}
}

func TestBehind(t *testing.T) {
	for _, c := range []struct {
		name  string
		block api.Block
		out   []int
		want  [][]int
	}{
		{"the chapter's example", of(jump(1), constant(0)), []int{0}, [][]int{{0}}},
		{"no instructions", of(back(0)), []int{3}, nil},
		{"nothing is needed", of(jump(0), constant(0), constant(1)), nil, [][]int{{}, {}}},
		{"through all", of(jump(0), constant(0), constant(1), constant(2)), []int{7}, [][]int{{7}, {7}, {7}}},
		{"the last one gives it", of(jump(0), constant(0), constant(1), constant(2)), []int{2}, [][]int{{}, {}, {2}}},
		{"till it is taken", of(back(2), constant(0), constant(1), add(2, 0, 1)), nil, [][]int{{0}, {0, 1}, {2}}},
		{"given again", of(back(1), constant(0), move(1, 0), constant(0), add(1, 0, 1)), nil, [][]int{{0}, {1}, {0, 1}, {1}}},
		{"given, and taken by none", of(back(1), constant(0), constant(0)), nil, [][]int{{1}, {1}}},
		{"the end takes what is needed behind it", of(branch(3, 0, 0), constant(3), constant(4)), []int{3, 4}, [][]int{{3}, {3, 4}}},
		{"its own result", of(back(0), add(0, 0, 0), add(0, 0, 0)), nil, [][]int{{0}, {0}}},
		{"KSpills and KFills", of(back(3), fill(2, 0), constant(1), spill(1, 2), fill(3, 1), store(3, 1)), []int{0}, [][]int{{0, 2}, {0, 1, 2}, {0, 1}, {0, 1, 3}, {0, 3}}},
		{"of what is far up", of(jump(0), move(4000, 511), constant(512)), []int{4095, 4000, 512}, [][]int{{4000, 4095}, {512, 4000, 4095}}},
	} {
		expect(t, "P12.1: Behind: "+c.name, live.Behind(c.block, bag.Of(c.out...)), c.want...)
	}
}

func TestNothing(t *testing.T) {
	for _, l := range [][]api.Block{nil, {}} {
		if in, out := live.Of(l); len(in) != 0 || len(out) != 0 {
			t.Errorf("P12.1: of no blocks: %v, %v", in, out)
		}
	}
	for _, l := range [][]api.Ins{nil, {}} {
		if got := live.Behind(api.Block{Ins: l, End: back(1)}, bag.Of(2)); len(got) != 0 {
			t.Errorf("P12.1: Behind of no instructions: %v", got)
		}
	}
}

func TestMost(t *testing.T) {
	// Of the blocks of code, and of functions that are split: 16 in a row with a way back, 400 instructions each, of 512 vregs.
	l := make([]api.Block, api.MaxBlocks)
	for b := range l {
		for n := range api.MaxLong {
			l[b].Ins = append(l[b].Ins, store((b*40+n)%api.MaxWide, n))
		}
		l[b].End = branch(0, min(b+1, len(l)-1), 0)
	}
	var all []int
	for v := range api.MaxWide {
		all = append(all, v)
	}
	in, out := live.Of(l)
	for b := range l {
		expect(t, "P12.1: of the most blocks: at the beginning", in[b:b+1], all)
		expect(t, "P12.1: of the most blocks: behind the end", out[b:b+1], all)
		behind := live.Behind(l[b], out[b])
		if len(behind) != api.MaxLong || !behind[0].Same(out[b]) || !behind[api.MaxLong-1].Same(out[b]) {
			t.Errorf("P12.1: of the most blocks: Behind of %d", b)
		}
	}
}

func TestLongWay(t *testing.T) {
	// What the last block takes is needed in all: the worst order for what goes from each to the one ahead, and one that is turned round.
	for _, turned := range []bool{false, true} {
		l := make([]api.Block, api.MaxBlocks)
		for b := range l {
			l[b] = of(jump(min(b+1, len(l)-1)), constant(b))
			if turned {
				l[b].End = jump(max(b-1, 0))
			}
		}
		last := len(l) - 1
		if turned {
			last = 0
		}
		l[last] = of(back(30))
		in, out := live.Of(l)
		for b := range l {
			want := []int{30}
			expect(t, "P12.1: a long way: at the beginning", in[b:b+1], want)
			if b == last {
				want = nil
			}
			expect(t, "P12.1: a long way: behind the end", out[b:b+1], want)
		}
	}
}
