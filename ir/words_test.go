package ir_test

import (
	"math"
	"slices"
	"testing"

	"outworker/api"
	"outworker/ir"
)

// full: an instruction of a kind with unlike numbers in all its fields, so that it shows which of them is answered.
func full(kind int) api.Ins {
	return api.Ins{Kind: api.Kind(kind), Op: api.Xor, D: 11, A: 22, B: 33, N: 44, Args: []int{55, 66, 55}}
}

// known: the kinds that take or give something.
var known = map[api.Kind]struct {
	takes []int
	gives int
	does  bool
}{
	api.KConst: {nil, 11, true},
	api.KMove:  {[]int{22}, 11, true},
	api.KBin:   {[]int{22, 33}, 11, true},
	api.KLoad:  {[]int{22}, 11, true},
	api.KStore: {[]int{22, 33}, 0, false},
	api.KCall:  {[]int{55, 66, 55}, 11, true},
	api.KSpill: {[]int{22}, 0, false},
	api.KFill:  {nil, 11, true},
}

func TestUsesAndGivesOfEachKind(t *testing.T) {
	for kind := range 256 {
		i := full(kind)
		want := known[i.Kind]
		if got := ir.Uses(i); !slices.Equal(got, want.takes) {
			t.Errorf("P4.1: Uses of kind %d: %v, want %v", kind, got, want.takes)
		}
		if d, ok := ir.Gives(i); d != want.gives || ok != want.does {
			t.Errorf("P4.1: Gives of kind %d: %d, %v; want %d, %v", kind, d, ok, want.gives, want.does)
		}
	}
}

func TestUsesTwiceTheSame(t *testing.T) {
	for _, c := range []struct {
		i    api.Ins
		want []int
	}{
		{api.Ins{Kind: api.KBin, Op: api.Add, D: 1}, []int{0, 0}},
		{api.Ins{Kind: api.KBin, Op: api.Sub, D: 1, A: 3, B: 2}, []int{3, 2}},
		{api.Ins{Kind: api.KStore, A: 7, B: 7}, []int{7, 7}},
		{api.Ins{Kind: api.KCall, D: 2, Args: []int{2, 2, 2}}, []int{2, 2, 2}},
		{api.Ins{Kind: api.KCall, Args: []int{3, 1, 2}}, []int{3, 1, 2}},
	} {
		if got := ir.Uses(c.i); !slices.Equal(got, c.want) {
			t.Errorf("P4.1: Uses of %v: %v, want %v", c.i, got, c.want)
		}
	}
}

// What they answer is what stands there, be it a vreg or not.
func TestWordsOfAnyNumbers(t *testing.T) {
	for _, n := range []int{math.MinInt, -1, 0, 1, 31, 32, math.MaxInt} {
		if got := ir.Uses(api.Ins{Kind: api.KBin, A: n, B: ^n}); !slices.Equal(got, []int{n, ^n}) {
			t.Errorf("P4.1: Uses of A %d, B %d: %v", n, ^n, got)
		}
		if got := ir.Uses(api.Ins{Kind: api.KCall, Args: []int{n, 0, ^n, n}}); !slices.Equal(got, []int{n, 0, ^n, n}) {
			t.Errorf("P4.1: Uses of four Args: %v", got)
		}
		if d, ok := ir.Gives(api.Ins{Kind: api.KConst, D: n}); d != n || !ok {
			t.Errorf("P4.1: Gives of D %d: %d, %v", n, d, ok)
		}
		if a, ok := ir.Last(api.End{Kind: api.EReturn, A: n}); a != n || !ok {
			t.Errorf("P4.1: Last of A %d: %d, %v", n, a, ok)
		}
	}
}

func TestUsesOfCalls(t *testing.T) {
	if got := ir.Uses(api.Ins{Kind: api.KCall}); len(got) != 0 {
		t.Errorf("P4.1: Uses of a call without Args: %v", got)
	}
	if got := ir.Uses(api.Ins{Kind: api.KCall, Args: []int{}}); len(got) != 0 {
		t.Errorf("R5: Uses of a call with an empty list: %v", got)
	}
	long := make([]int, 1000)
	for n := range long {
		long[n] = n
	}
	if got := ir.Uses(api.Ins{Kind: api.KCall, Args: long}); !slices.Equal(got, long) {
		t.Errorf("P4.1: Uses of a call with 1000 Args: %d of them", len(got))
	}
}

func TestUsesIsNewMemory(t *testing.T) {
	room := []int{1, 2, 3, 4}
	i := api.Ins{Kind: api.KCall, Args: room[:2]}
	first, again := ir.Uses(i), ir.Uses(i)
	clear(first[:cap(first)])
	if !slices.Equal(room, []int{1, 2, 3, 4}) || !slices.Equal(again, []int{1, 2}) {
		t.Error("R6: what Uses answers is no new memory")
	}
	if got := append(ir.Uses(i), 9); !slices.Equal(got, []int{1, 2, 9}) || room[2] != 3 {
		t.Error("R6: Uses answers the room behind what was handed in")
	}
	room[0] = 8
	if !slices.Equal(again, []int{1, 2}) {
		t.Error("R6: what Uses answered changed with what was handed in")
	}
}

func TestLastOfEachKind(t *testing.T) {
	for kind := range 256 {
		e := api.End{Kind: api.EndKind(kind), A: 5, To: 6, Else: 7}
		takes := e.Kind == api.EBranch || e.Kind == api.EReturn
		if a, ok := ir.Last(e); a != 5 || ok != takes {
			t.Errorf("P4.1: Last of kind %d with A 5: %d, %v; want 5, %v", kind, a, ok, takes)
		}
	}
	if a, ok := ir.Last(api.End{Kind: api.EJump, To: 3}); a != 0 || ok {
		t.Errorf("P4.1: Last of a jump: %d, %v; want 0, false", a, ok)
	}
}

// alike: are these the same blocks, nil and empty lists the same?
func alike(a, b api.Block) bool {
	return a.End == b.End && slices.EqualFunc(a.Ins, b.Ins, func(x, y api.Ins) bool {
		return x.Kind == y.Kind && x.Op == y.Op && x.D == y.D && x.A == y.A && x.B == y.B && x.N == y.N && slices.Equal(x.Args, y.Args)
	})
}

// mixed: a block with all kinds that there are and some that there are not; the same in each call.
func mixed() api.Block {
	b := api.Block{End: api.End{Kind: 9, A: -1, To: 77, Else: math.MinInt}}
	for kind := range 12 {
		i := full(kind)
		i.D, i.N = kind, math.MinInt64+int64(kind)
		i.Args = i.Args[:kind%4]
		b.Ins = append(b.Ins, i)
	}
	return b
}

func TestCopiedIsTheSame(t *testing.T) {
	many := api.Block{Ins: make([]api.Ins, 1000), End: api.End{Kind: api.EReturn}}
	for _, b := range []api.Block{
		{},
		{Ins: []api.Ins{}},
		{End: api.End{Kind: api.EBranch, A: 1, To: 2, Else: 3}},
		{Ins: []api.Ins{{Kind: api.KCall, Args: []int{}}}},
		{Ins: []api.Ins{full(6)}, End: api.End{Kind: api.EJump, To: 1}},
		mixed(),
		many,
	} {
		if got := ir.Copied(b); !alike(got, b) {
			t.Errorf("P4.1: Copied of %v: %v", b, got)
		}
	}
}

func TestCopiedIsNewMemory(t *testing.T) {
	b := mixed()
	got, again := ir.Copied(b), ir.Copied(b)
	if !alike(b, mixed()) {
		t.Error("R6: Copied changed what was handed in")
	}
	for n := range got.Ins {
		args := got.Ins[n].Args
		clear(args[:cap(args)])
	}
	clear(got.Ins[:cap(got.Ins)])
	if !alike(b, mixed()) || !alike(again, mixed()) {
		t.Error("R6: what Copied answers is no new memory")
	}
	for n := range b.Ins {
		clear(b.Ins[n].Args)
	}
	clear(b.Ins)
	if !alike(again, mixed()) {
		t.Error("R6: what Copied answered changed with what was handed in")
	}
}

func TestCopiedOfListsThatShare(t *testing.T) {
	room := []int{1, 2, 3, 4}
	b := api.Block{Ins: []api.Ins{{Kind: api.KCall, Args: room[:2]}, {Kind: api.KCall, Args: room[:3]}, {Kind: api.KCall, Args: room[1:2]}}}
	got := ir.Copied(b)
	got.Ins[0].Args[1] = 9
	if got.Ins[1].Args[1] != 2 || got.Ins[2].Args[0] != 2 {
		t.Error("R6: two lists of what Copied answers share memory")
	}
	_ = append(got.Ins[0].Args, 9)
	_ = append(got.Ins, api.Ins{})
	if !slices.Equal(room, []int{1, 2, 3, 4}) || got.Ins[1].Args[2] != 3 {
		t.Error("R6: what Copied answers has the room behind what was handed in")
	}
}
