package wire_test

import (
	"slices"
	"testing"

	"outworker/api"
)

// funcBody, codeBody: one block of these instructions, of 32 vregs, or 8 registers and 64 slots.
func funcBody(n int, parts ...[]byte) []byte {
	return join([]byte{2, 32, 1}, num(uint64(n)), join(parts...))
}

func codeBody(n int, parts ...[]byte) []byte {
	return join([]byte{2, 8, 64, 1}, num(uint64(n)), join(parts...))
}

func TestReadFuncOfNothing(t *testing.T) {
	noFunc(t, nil, api.ErrShort, "nil")
	noFunc(t, []byte{}, api.ErrShort, "nothing")
	noCode(t, nil, api.ErrShort, "nil")
	noCode(t, []byte{}, api.ErrShort, "nothing")
}

func TestReadFuncOfBadSizes(t *testing.T) {
	ret := []byte{0, 3, 0}
	for why, b := range map[string][]byte{
		"5 Params":                 nums(5, 5, 1, 0, 3, 0),
		"4095 Params":              nums(4095, 4095, 1, 0, 3, 0),
		"more Params than Vregs":   nums(1, 0, 1, 0, 3, 0),
		"33 Vregs":                 nums(0, 33, 1, 0, 3, 0),
		"4095 Vregs":               nums(0, 4095, 1, 0, 3, 0),
		"no blocks":                nums(0, 1, 0),
		"no vregs, and a return":   nums(0, 0, 1, 0, 3, 0),
		"16 blocks, one of faults": join(nums(0, 1, 16), slices.Repeat(ret, 15), []byte{0, 3, 1}),
	} {
		noFunc(t, b, api.ErrShape, why)
		noFunc(t, append(b, 0), api.ErrRest, why+", and a byte behind")
	}
	noFunc(t, join(nums(0, 1, 17), slices.Repeat(ret, 17)), api.ErrRange, "17 blocks")
	noFunc(t, nums(0, 4096, 1, 0, 3, 0), api.ErrRange, "4096 Vregs")
	noFunc(t, nums(4096, 1, 1, 0, 3, 0), api.ErrRange, "4096 Params")
}

func TestReadFuncOfBadBlocks(t *testing.T) {
	ret := []byte{3, 0}
	for why, ins := range map[string][]byte{
		"a KSpill":            {7, 0, 0},
		"a KFill":             {8, 0, 0},
		"vreg 32 is given":    {1, 32, 0},
		"vreg 32 is taken":    {2, 0, 32},
		"vreg 4095":           {2, 0xff, 0x1f, 0},
		"Op 0":                {3, 0, 1, 1, 1},
		"Op 8":                {3, 8, 1, 1, 1},
		"Op 255":              {3, 0xff, 1, 1, 1, 1},
		"an arg that is none": {6, 0, 0, 3, 0, 0, 32},
	} {
		noFunc(t, funcBody(1, ins, ret), api.ErrShape, why)
		noFunc(t, funcBody(1, ins, ret, ret), api.ErrRest, why+", and bytes behind")
		noFunc(t, funcBody(1, ins), api.ErrShort, why+", and no end")
		noFunc(t, funcBody(1, ins, []byte{4, 0}), api.ErrKind, why+", and an end of no kind")
	}
	noFunc(t, funcBody(1, []byte{3, 0x80, 2, 0, 0, 0}, ret), api.ErrRange, "Op 256")
	noFunc(t, funcBody(1, []byte{0x81, 2, 0, 0}, ret), api.ErrRange, "Kind 257")
	noFunc(t, funcBody(1, []byte{6, 0, 0, 4, 0, 0, 0, 0}, ret), api.ErrRange, "four Args")
	one := []byte{1, 0, 0}
	noFunc(t, funcBody(33, slices.Repeat(one, 33), ret), api.ErrRange, "33 instructions")
	for why, end := range map[string][]byte{
		"a return of no vreg":        {3, 32},
		"a jump to no block":         {1, 1},
		"a branch on no vreg":        {2, 32, 0, 0},
		"a branch to no block":       {2, 0, 1, 0},
		"a branch, else to no block": {2, 0, 0, 1},
	} {
		noFunc(t, funcBody(0, end), api.ErrShape, why)
		noFunc(t, funcBody(0, end, []byte{0}), api.ErrRest, why+", and a byte behind")
	}
}

func TestReadCodeOfBadSizes(t *testing.T) {
	ret := []byte{0, 3, 0}
	for why, b := range map[string][]byte{
		"5 Params":               nums(5, 8, 64, 1, 0, 3, 0),
		"2 Regs":                 nums(0, 2, 0, 1, 0, 3, 0),
		"9 Regs":                 nums(0, 9, 0, 1, 0, 3, 0),
		"4095 Regs":              nums(0, 4095, 0, 1, 0, 3, 0),
		"more Params than Slots": nums(1, 3, 0, 1, 0, 3, 0),
		"65 Slots":               nums(0, 3, 65, 1, 0, 3, 0),
		"4095 Slots":             nums(0, 3, 4095, 1, 0, 3, 0),
		"no blocks":              nums(0, 3, 0, 0),
	} {
		noCode(t, b, api.ErrShape, why)
		noCode(t, append(b, 0), api.ErrRest, why+", and a byte behind")
	}
	noCode(t, join(nums(0, 3, 0, 17), slices.Repeat(ret, 17)), api.ErrRange, "17 blocks")
	noCode(t, nums(0, 4096, 0, 1, 0, 3, 0), api.ErrRange, "4096 Regs")
	noCode(t, nums(0, 3, 4096, 1, 0, 3, 0), api.ErrRange, "4096 Slots")
	noCode(t, nums(4096, 3, 0, 1, 0, 3, 0), api.ErrRange, "4096 Params")
}

func TestReadCodeOfBadBlocks(t *testing.T) {
	ret := []byte{3, 0}
	for why, ins := range map[string][]byte{
		"a KSpill of no register": {7, 0, 8},
		"a KSpill to no slot":     {7, 64, 0},
		"a KFill of no slot":      {8, 0, 64},
		"a KFill of no register":  {8, 8, 0},
		"register 8 is given":     {1, 8, 0},
		"register 8 is taken":     {2, 0, 8},
		"Op 0":                    {3, 0, 1, 1, 1},
		"Op 8":                    {3, 8, 1, 1, 1},
		"an arg that is none":     {6, 0, 0, 3, 0, 0, 8},
	} {
		noCode(t, codeBody(1, ins, ret), api.ErrShape, why)
		noCode(t, codeBody(1, ins, ret, ret), api.ErrRest, why+", and bytes behind")
		noCode(t, codeBody(1, ins), api.ErrShort, why+", and no end")
		noCode(t, codeBody(1, ins, []byte{4, 0}), api.ErrKind, why+", and an end of no kind")
	}
	one := []byte{1, 0, 0}
	noCode(t, codeBody(401, slices.Repeat(one, 401), ret), api.ErrRange, "401 instructions")
	noCode(t, codeBody(1, []byte{6, 0, 0, 4, 0, 0, 0, 0}, ret), api.ErrRange, "four Args")
	noCode(t, codeBody(0, []byte{3, 8}), api.ErrShape, "a return of no register")
	noCode(t, codeBody(0, []byte{1, 1}), api.ErrShape, "a jump to no block")
}

func TestReadsOfMuchThatIsNotThere(t *testing.T) {
	noFunc(t, nums(0, 1, 16), api.ErrShort, "16 blocks that aren't there")
	noFunc(t, nums(0, 1, 16, 32), api.ErrShort, "32 instructions that aren't there")
	noCode(t, nums(0, 3, 0, 16, 400), api.ErrShort, "400 instructions that aren't there")
	noFunc(t, nums(0, 1, 1, 1, 6, 0, 0, 3), api.ErrShort, "three Args that aren't there")
}
