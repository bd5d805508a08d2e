package paths_test

import (
	"slices"
	"testing"

	"outworker/api"
	"outworker/ir"
	"outworker/paths"
)

// jump, branch, back: ends of each kind.
func jump(to int) api.End          { return api.End{Kind: api.EJump, To: to} }
func branch(to, other int) api.End { return api.End{Kind: api.EBranch, To: to, Else: other} }
func back() api.End                { return api.End{Kind: api.EReturn} }

// blocks: empty ones with these ends.
func blocks(ends ...api.End) []api.Block {
	var l []api.Block
	for _, e := range ends {
		l = append(l, api.Block{End: e})
	}
	return l
}

// shape is blocks, and what the chapter's words say of them.
type shape struct {
	name         string
	blocks       []api.Block
	ahead        [][]int
	reach, order []int
}

// shapes: by hand, each kind of way.
func shapes() []shape {
	return []shape{
		{"one block", blocks(back()), [][]int{{}}, []int{0}, []int{0}},
		{"one that follows itself", blocks(jump(0)), [][]int{{0}}, []int{0}, []int{0}},
		{"one that follows itself twice", blocks(branch(0, 0)), [][]int{{0}}, []int{0}, []int{0}},
		{"a row", blocks(jump(1), jump(2), back()), [][]int{{}, {0}, {1}}, []int{0, 1, 2}, []int{0, 1, 2}},
		{"a row turned round", blocks(jump(2), back(), jump(1)), [][]int{{}, {2}, {0}}, []int{0, 1, 2}, []int{0, 2, 1}},
		{"the chapter's example", blocks(branch(2, 1), jump(3), jump(3), back()),
			[][]int{{}, {0}, {0}, {1, 2}}, []int{0, 1, 2, 3}, []int{0, 1, 2, 3}},
		{"the example, To and Else changed", blocks(branch(1, 2), jump(3), jump(3), back()),
			[][]int{{}, {0}, {0}, {1, 2}}, []int{0, 1, 2, 3}, []int{0, 2, 1, 3}},
		{"both ways alike", blocks(branch(1, 1), back()), [][]int{{}, {0}}, []int{0, 1}, []int{0, 1}},
		{"To is behind Else", blocks(branch(1, 2), back(), jump(1)), [][]int{{}, {0, 2}, {0}}, []int{0, 1, 2}, []int{0, 2, 1}},
		{"Else is behind To", blocks(branch(1, 2), jump(2), back()), [][]int{{}, {0}, {0, 1}}, []int{0, 1, 2}, []int{0, 1, 2}},
		{"a loop with its way out by Else", blocks(jump(1), branch(2, 3), jump(1), back()),
			[][]int{{}, {0, 2}, {1}, {1}}, []int{0, 1, 2, 3}, []int{0, 1, 3, 2}},
		{"a loop with its way out by To", blocks(jump(1), branch(3, 2), jump(1), back()),
			[][]int{{}, {0, 2}, {1}, {1}}, []int{0, 1, 2, 3}, []int{0, 1, 2, 3}},
		{"a loop into block 0", blocks(branch(1, 2), jump(0), back()), [][]int{{1}, {0}, {0}}, []int{0, 1, 2}, []int{0, 2, 1}},
		{"a loop with two ways in", blocks(branch(1, 2), jump(2), jump(1)), [][]int{{}, {0, 2}, {0, 1}}, []int{0, 1, 2}, []int{0, 1, 2}},
		{"a block that isn't come to", blocks(jump(2), back(), back()), [][]int{{}, {}, {0}}, []int{0, 2}, []int{0, 2}},
		{"blocks that aren't come to follow others that are", blocks(jump(3), branch(3, 1), jump(0), back()),
			[][]int{{2}, {1}, {}, {0, 1}}, []int{0, 3}, []int{0, 3}},
		{"two that aren't come to follow each other", blocks(back(), jump(2), jump(1)), [][]int{{}, {2}, {1}}, []int{0}, []int{0}},
	}
}

func TestNext(t *testing.T) {
	for _, c := range []struct {
		end  api.End
		want []int
	}{
		{jump(3), []int{3}},
		{jump(0), []int{0}},
		{api.End{Kind: api.EJump, A: 1, To: 4, Else: 2}, []int{4}},
		{branch(2, 1), []int{2, 1}},
		{branch(1, 2), []int{1, 2}},
		{branch(0, 15), []int{0, 15}},
		{branch(2, 2), []int{2}},
		{branch(0, 0), []int{0}},
		{api.End{Kind: api.EBranch, A: 7, To: 3, Else: 1}, []int{3, 1}},
		{back(), nil},
		{api.End{Kind: api.EReturn, A: 5, To: 1, Else: 2}, nil},
		{api.End{}, nil},
		{api.End{To: 1, Else: 2}, nil},
		{api.End{Kind: 4, To: 1, Else: 2}, nil},
		{api.End{Kind: 255, To: 1, Else: 2}, nil},
	} {
		if got := paths.Next(c.end); !slices.Equal(got, c.want) {
			t.Errorf("P10.1: Next(%+v) = %v, want %v", c.end, got, c.want)
		}
	}
}

func TestShapesAreOfFunctions(t *testing.T) {
	for _, s := range shapes() {
		if fault := ir.Check(api.Func{Vregs: 1, Blocks: s.blocks}); fault != (api.Fault{}) {
			t.Errorf("R9: %s: Check = %v", s.name, fault)
		}
	}
}

func TestAhead(t *testing.T) {
	for _, s := range shapes() {
		if got := paths.Ahead(s.blocks); !slices.EqualFunc(got, s.ahead, slices.Equal) {
			t.Errorf("P10.1: %s: Ahead = %v, want %v", s.name, got, s.ahead)
		}
	}
}

func TestReach(t *testing.T) {
	for _, s := range shapes() {
		got := paths.Reach(s.blocks)
		if !slices.Equal(got.All(), s.reach) {
			t.Errorf("P10.1: %s: Reach = %v, want %v", s.name, got.All(), s.reach)
		}
	}
}

func TestOrder(t *testing.T) {
	for _, s := range shapes() {
		if got := paths.Order(s.blocks); !slices.Equal(got, s.order) {
			t.Errorf("P10.2: %s: Order = %v, want %v", s.name, got, s.order)
		}
	}
}

func TestMostBlocks(t *testing.T) {
	var l []api.Block
	var want []int
	for b := range api.MaxBlocks - 1 {
		l = append(l, api.Block{End: branch(b+1, 0)})
		want = append(want, b)
	}
	l = append(l, api.Block{End: jump(api.MaxBlocks - 1)})
	want = append(want, api.MaxBlocks-1)
	if got := paths.Order(l); !slices.Equal(got, want) {
		t.Errorf("P10.2: of %d blocks in a row, Order = %v", api.MaxBlocks, got)
	}
	ahead := paths.Ahead(l)
	if !slices.Equal(ahead[0], want[:api.MaxBlocks-1]) || !slices.Equal(ahead[api.MaxBlocks-1], want[api.MaxBlocks-2:]) {
		t.Errorf("P10.1: of %d blocks in a row, Ahead = %v", api.MaxBlocks, ahead)
	}
	if r := paths.Reach(l); !slices.Equal(r.All(), want) {
		t.Errorf("P10.1: of %d blocks in a row, Reach = %v", api.MaxBlocks, r.All())
	}
}
