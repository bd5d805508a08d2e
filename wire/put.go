package wire

import (
	"outworker/api"
	"outworker/leb"
)

// put: numbers from 0 on, behind bytes.
func put(b []byte, numbers ...int) []byte {
	for _, n := range numbers {
		// leb.Put copies what it is handed: were that b, each number would cost as much as all that is ahead of it.
		b = append(b, leb.Put(nil, uint64(n))...)
	}
	return b
}

// putInt: a number that may be below 0, behind bytes.
func putInt(b []byte, n int64) []byte { return append(b, leb.PutInt(nil, n)...) }

// putBlocks: blocks without a fault, behind bytes.
func putBlocks(b []byte, blocks []api.Block) []byte {
	b = put(b, len(blocks))
	for _, block := range blocks {
		b = put(b, len(block.Ins))
		for _, i := range block.Ins {
			b = putIns(b, i)
		}
		b = putEnd(b, block.End)
	}
	return b
}

// putIns: an instruction, behind bytes.
func putIns(b []byte, i api.Ins) []byte {
	b = put(b, int(i.Kind))
	switch i.Kind {
	case api.KConst:
		b = put(b, i.D)
		b = putInt(b, i.N)
	case api.KMove, api.KLoad, api.KSpill, api.KFill:
		b = put(b, i.D, i.A)
	case api.KBin:
		b = put(b, int(i.Op), i.D, i.A, i.B)
	case api.KStore:
		b = put(b, i.A, i.B)
	case api.KCall:
		b = put(b, i.D)
		b = putInt(b, i.N)
		b = put(b, len(i.Args))
		b = put(b, i.Args...)
	}
	return b
}

// putEnd: an end, behind bytes.
func putEnd(b []byte, e api.End) []byte {
	b = put(b, int(e.Kind))
	switch e.Kind {
	case api.EJump:
		b = put(b, e.To)
	case api.EBranch:
		b = put(b, e.A, e.To, e.Else)
	case api.EReturn:
		b = put(b, e.A)
	}
	return b
}
