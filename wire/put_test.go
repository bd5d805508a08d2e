package wire_test

import (
	"math"
	"slices"
	"testing"

	"outworker/api"
	"outworker/ir"
	"outworker/mach"
	"outworker/wire"
)

func TestExample(t *testing.T) {
	f := api.Func{Vregs: 1, Blocks: []api.Block{{End: back(0)}}}
	funcIs(t, f, []byte{0, 1, 1, 0, 3, 0}, "the example")
}

// written: each kind of instruction, by hand; with vregs or registers from 0 to 7.
var written = []struct {
	i    api.Ins
	want []byte
}{
	{api.Ins{Kind: api.KConst, D: 5, N: 0}, []byte{1, 5, 0}},
	{api.Ins{Kind: api.KConst, D: 5, N: 1}, []byte{1, 5, 2}},
	{api.Ins{Kind: api.KConst, D: 5, N: -1}, []byte{1, 5, 1}},
	{api.Ins{Kind: api.KConst, D: 5, N: 64}, []byte{1, 5, 0x80, 1}},
	{api.Ins{Kind: api.KConst, D: 5, N: -65}, []byte{1, 5, 0x81, 1}},
	{api.Ins{Kind: api.KConst, D: 5, N: math.MaxInt64}, []byte{1, 5, 0xfe, 0xff, 0xff, 0xff, 0xff, 0xff, 0xff, 0xff, 0xff, 1}},
	{api.Ins{Kind: api.KConst, D: 5, N: math.MinInt64}, []byte{1, 5, 0xff, 0xff, 0xff, 0xff, 0xff, 0xff, 0xff, 0xff, 0xff, 1}},
	{api.Ins{Kind: api.KMove, D: 1, A: 2}, []byte{2, 1, 2}},
	{api.Ins{Kind: api.KBin, Op: api.Add, D: 1, A: 2, B: 3}, []byte{3, 1, 1, 2, 3}},
	{api.Ins{Kind: api.KBin, Op: api.Div, D: 4, A: 3, B: 2}, []byte{3, 7, 4, 3, 2}},
	{api.Ins{Kind: api.KLoad, D: 3, A: 4}, []byte{4, 3, 4}},
	{api.Ins{Kind: api.KStore, A: 6, B: 7}, []byte{5, 6, 7}},
	{api.Ins{Kind: api.KCall, D: 1, N: 100}, []byte{6, 1, 0xc8, 1, 0}},
	{api.Ins{Kind: api.KCall, D: 1, N: -2, Args: []int{4}}, []byte{6, 1, 3, 1, 4}},
	{api.Ins{Kind: api.KCall, D: 1, N: 2, Args: []int{4, 5, 4}}, []byte{6, 1, 4, 3, 4, 5, 4}},
}

// ends: each kind of end, by hand, of three blocks.
var ends = []struct {
	end  api.End
	want []byte
}{
	{api.End{Kind: api.EJump}, []byte{1, 0}},
	{api.End{Kind: api.EJump, To: 2}, []byte{1, 2}},
	{api.End{Kind: api.EBranch, A: 7, To: 1, Else: 2}, []byte{2, 7, 1, 2}},
	{api.End{Kind: api.EReturn, A: 7}, []byte{3, 7}},
}

func TestBytesOfEachKind(t *testing.T) {
	for _, w := range written {
		body := join([]byte{1, 1}, w.want, []byte{3, 0})
		funcIs(t, oneFunc(back(0), w.i), join([]byte{2, 32}, body), "one instruction")
		codeIs(t, oneCode(back(0), w.i), join([]byte{2, 8, 64}, body), "one instruction")
	}
	for _, s := range []struct {
		i    api.Ins
		want []byte
	}{
		{api.Ins{Kind: api.KSpill, D: 63, A: 7}, []byte{7, 63, 7}},
		{api.Ins{Kind: api.KFill, D: 7, A: 63}, []byte{8, 7, 63}},
	} {
		codeIs(t, oneCode(back(0), s.i), join([]byte{2, 8, 64, 1, 1}, s.want, []byte{3, 0}), "one instruction")
	}
}

func TestBytesOfAll(t *testing.T) {
	var ins []api.Ins
	body := []byte{byte(len(written))}
	for _, w := range written {
		ins = append(ins, w.i)
		body = append(body, w.want...)
	}
	for _, w := range ends {
		blocks := []api.Block{{End: back(3)}, {Ins: ins, End: w.end}, {Ins: []api.Ins{}, End: back(4)}}
		all := join([]byte{3, 0, 3, 3}, body, w.want, []byte{0, 3, 4})
		funcIs(t, api.Func{Params: 4, Vregs: 8, Blocks: blocks}, join([]byte{4, 8}, all), "all instructions")
		codeIs(t, api.Code{Params: 1, Regs: 8, Slots: 2, Blocks: blocks}, join([]byte{1, 8, 2}, all), "all instructions")
	}
}

func TestBytesOfTheLeast(t *testing.T) {
	on := []api.Block{{End: api.End{Kind: api.EJump}}}
	funcIs(t, api.Func{Blocks: on}, []byte{0, 0, 1, 0, 1, 0}, "a function without vregs")
	codeIs(t, api.Code{Regs: 3, Blocks: on}, []byte{0, 3, 0, 1, 0, 1, 0}, "code without slots")
}

// greatest: 16 blocks, each of so many calls with the greatest numbers that there are, and their bytes.
func greatest(n, last int) ([]api.Block, []byte) {
	var blocks []api.Block
	call := api.Ins{Kind: api.KCall, D: last, N: math.MinInt64, Args: []int{last, last, last}}
	v := byte(last)
	one := join([]byte{6, v}, signed(math.MinInt64), []byte{3, v, v, v})
	b := []byte{16}
	for range 16 {
		blocks = append(blocks, api.Block{Ins: slices.Repeat([]api.Ins{call}, n), End: api.End{Kind: api.EBranch, A: last, To: 15, Else: 15}})
		b = join(b, num(uint64(n)), slices.Repeat(one, n), []byte{2, v, 15, 15})
	}
	return blocks, b
}

func TestBytesOfTheGreatest(t *testing.T) {
	blocks, b := greatest(32, 31)
	funcIs(t, api.Func{Params: 4, Vregs: 32, Blocks: blocks}, join([]byte{4, 32}, b), "the greatest function")
	blocks, b = greatest(400, 7)
	codeIs(t, api.Code{Params: 4, Regs: 8, Slots: 64, Blocks: blocks}, join([]byte{4, 8, 64}, b), "the greatest code")
}

// noBytes: ErrShape, and nothing beside it.
func noBytes(t *testing.T, b []byte, e api.Errno, why string) {
	t.Helper()
	if e != api.ErrShape || len(b) != 0 {
		t.Errorf("P8.1: %s: % x, %d; want nothing, %d", why, b, e, api.ErrShape)
	}
}

func TestFuncOfFaults(t *testing.T) {
	long := slices.Repeat([]api.Ins{{Kind: api.KConst}}, 33)
	for why, f := range map[string]api.Func{
		"nothing":                 {},
		"Params below 0":          {Params: -1, Vregs: 1, Blocks: []api.Block{{End: back(0)}}},
		"too many Params":         {Params: 5, Vregs: 5, Blocks: []api.Block{{End: back(0)}}},
		"more Params than Vregs":  {Params: 2, Vregs: 1, Blocks: []api.Block{{End: back(0)}}},
		"too many Vregs":          {Vregs: 33, Blocks: []api.Block{{End: back(0)}}},
		"too many blocks":         {Vregs: 1, Blocks: slices.Repeat([]api.Block{{End: back(0)}}, 17)},
		"too many instructions":   oneFunc(back(0), long...),
		"no end":                  oneFunc(api.End{}),
		"an instruction of none":  oneFunc(back(0), api.Ins{}),
		"a KSpill":                oneFunc(back(0), api.Ins{Kind: api.KSpill}),
		"a KFill":                 oneFunc(back(0), api.Ins{Kind: api.KFill}),
		"kind 9":                  oneFunc(back(0), api.Ins{Kind: 9}),
		"Op 8":                    oneFunc(back(0), api.Ins{Kind: api.KBin, Op: 8}),
		"a KMove with N":          oneFunc(back(0), api.Ins{Kind: api.KMove, N: 3}),
		"a vreg below 0":          oneFunc(back(0), api.Ins{Kind: api.KMove, A: -1}),
		"a vreg that is none":     oneFunc(back(0), api.Ins{Kind: api.KMove, D: 32}),
		"four Args":               oneFunc(back(0), api.Ins{Kind: api.KCall, Args: make([]int, 4)}),
		"a return of no vreg":     oneFunc(back(32)),
		"a jump to no block":      oneFunc(api.End{Kind: api.EJump, To: 1}),
		"a jump with Else":        oneFunc(api.End{Kind: api.EJump, Else: 1}),
		"a branch to block -1":    oneFunc(api.End{Kind: api.EBranch, Else: -1}),
		"an instruction with B":   oneFunc(back(0), api.Ins{Kind: api.KConst, B: 1}),
		"faults in a later block": {Vregs: 1, Blocks: []api.Block{{End: back(0)}, {End: back(1)}}},
	} {
		if ir.Check(f) == (api.Fault{}) {
			t.Fatalf("%s should be a fault", why)
		}
		b, e := wire.Func(f)
		noBytes(t, b, e, "Func of "+why)
	}
}

func TestCodeOfFaults(t *testing.T) {
	long := slices.Repeat([]api.Ins{{Kind: api.KConst}}, 401)
	for why, c := range map[string]api.Code{
		"nothing":                {},
		"too few Regs":           {Regs: 2, Blocks: []api.Block{{End: back(0)}}},
		"too many Regs":          {Regs: 9, Blocks: []api.Block{{End: back(0)}}},
		"more Params than Slots": {Params: 2, Regs: 3, Slots: 1, Blocks: []api.Block{{End: back(0)}}},
		"too many Slots":         {Regs: 3, Slots: 65, Blocks: []api.Block{{End: back(0)}}},
		"too many Params":        {Params: 5, Regs: 8, Slots: 64, Blocks: []api.Block{{End: back(0)}}},
		"no blocks":              {Regs: 3},
		"too many blocks":        {Regs: 3, Blocks: slices.Repeat([]api.Block{{End: back(0)}}, 17)},
		"too many instructions":  oneCode(back(0), long...),
		"no end":                 oneCode(api.End{}),
		"kind 9":                 oneCode(back(0), api.Ins{Kind: 9}),
		"a register of none":     oneCode(back(0), api.Ins{Kind: api.KMove, A: 8}),
		"a slot of none":         oneCode(back(0), api.Ins{Kind: api.KSpill, D: 64}),
		"a slot below 0":         oneCode(back(0), api.Ins{Kind: api.KFill, A: -1}),
		"a KSpill with N":        oneCode(back(0), api.Ins{Kind: api.KSpill, N: 1}),
		"a KFill with B":         oneCode(back(0), api.Ins{Kind: api.KFill, B: 1}),
		"a return of no reg":     oneCode(back(8)),
	} {
		if mach.Check(c) == (api.Fault{}) {
			t.Fatalf("%s should be a fault", why)
		}
		b, e := wire.Code(c)
		noBytes(t, b, e, "Code of "+why)
	}
	codeIs(t, oneCode(back(0), long[:33]...), join([]byte{2, 8, 64, 1, 33}, slices.Repeat([]byte{1, 0, 0}, 33), []byte{3, 0}), "code longer than a function's blocks may be")
}
