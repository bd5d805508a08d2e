package wire_test

import (
	"math"
	"slices"
	"testing"

	"outworker/api"
	"outworker/wire"
)

// number: one that stands in bytes; what it must be below (0: it is an N, which may be anything); of a Kind also below what all are Kinds.
type number struct{ n, below, kinds uint64 }

func (n number) bytes() []byte {
	if n.below == 0 {
		return signed(int64(n.n))
	}
	return num(n.n)
}

// field: a number that is nothing else.
func field(n int) number { return number{n: uint64(n), below: 4096} }

// layout: what stands behind each Kind, by the chapter's words; L: how many Args, and they.
var layout = map[api.Kind]string{
	api.KConst: "DN", api.KMove: "DA", api.KBin: "ODAB", api.KLoad: "DA",
	api.KStore: "AB", api.KCall: "DNL", api.KSpill: "DA", api.KFill: "DA",
}

// endLayout: likewise of ends.
var endLayout = map[api.EndKind]string{api.EJump: "T", api.EBranch: "ATE", api.EReturn: "A"}

// insNumbers: an instruction's.
func insNumbers(i api.Ins) []number {
	l := []number{{n: uint64(i.Kind), below: 256, kinds: 9}}
	for _, c := range layout[i.Kind] {
		switch c {
		case 'D':
			l = append(l, field(i.D))
		case 'A':
			l = append(l, field(i.A))
		case 'B':
			l = append(l, field(i.B))
		case 'N':
			l = append(l, number{n: uint64(i.N)})
		case 'O':
			l = append(l, number{n: uint64(i.Op), below: 256})
		case 'L':
			l = append(l, number{n: uint64(len(i.Args)), below: 4})
			for _, a := range i.Args {
				l = append(l, field(a))
			}
		}
	}
	return l
}

// endNumbers: an end's.
func endNumbers(e api.End) []number {
	l := []number{{n: uint64(e.Kind), below: 256, kinds: 4}}
	for _, c := range endLayout[e.Kind] {
		l = append(l, field(map[rune]int{'A': e.A, 'T': e.To, 'E': e.Else}[c]))
	}
	return l
}

// blockNumbers: those of blocks, of which each has less than long instructions.
func blockNumbers(blocks []api.Block, long uint64) []number {
	l := []number{{n: uint64(len(blocks)), below: 17}}
	for _, b := range blocks {
		l = append(l, number{n: uint64(len(b.Ins)), below: long})
		for _, i := range b.Ins {
			l = append(l, insNumbers(i)...)
		}
		l = append(l, endNumbers(b.End)...)
	}
	return l
}

func funcNumbers(f api.Func) []number {
	return append([]number{field(f.Params), field(f.Vregs)}, blockNumbers(f.Blocks, 33)...)
}

func codeNumbers(c api.Code) []number {
	return append([]number{field(c.Params), field(c.Regs), field(c.Slots)}, blockNumbers(c.Blocks, 401)...)
}

func certNumbers(l [][]api.Pair) []number {
	all := []number{{n: uint64(len(l)), below: 17}}
	for _, pairs := range l {
		all = append(all, number{n: uint64(len(pairs)), below: 65536})
		for _, p := range pairs {
			all = append(all, field(p.V), field(p.L))
		}
	}
	return all
}

// bytesOf: numbers as bytes.
func bytesOf(l []number) []byte {
	var b []byte
	for _, n := range l {
		b = append(b, n.bytes()...)
	}
	return b
}

// mixed: blocks with all that functions may have.
func mixed() []api.Block {
	var ins []api.Ins
	for _, w := range written {
		ins = append(ins, w.i)
	}
	return []api.Block{
		{Ins: ins, End: ends[0].end},
		{End: ends[2].end},
		{Ins: ins[:3], End: ends[3].end},
	}
}

// mixedFunc, mixedCode, mixedCert: numbers that are read.
func mixedFunc() []number { return funcNumbers(api.Func{Params: 3, Vregs: 9, Blocks: mixed()}) }

func mixedCode() []number {
	c := api.Code{Params: 3, Regs: 8, Slots: 9, Blocks: mixed()}
	c.Blocks[1].Ins = []api.Ins{{Kind: api.KSpill, D: 8, A: 7}, {Kind: api.KFill, D: 7, A: 8}}
	return codeNumbers(c)
}

func mixedCert() []number {
	return certNumbers([][]api.Pair{{{V: 1, L: 2}, {V: 300, L: 4095}}, nil, {{V: 4095}}})
}

// reading: numbers that are read, and the call that tells which error their bytes have.
type reading struct {
	name string
	l    []number
	code func(t *testing.T, b []byte, want api.Errno, why string)
	read func(b []byte) api.Errno
}

func readings() []reading {
	return []reading{
		{"ReadFunc", mixedFunc(), noFunc, func(b []byte) api.Errno { _, e := wire.ReadFunc(b); return e }},
		{"ReadCode", mixedCode(), noCode, func(b []byte) api.Errno { _, e := wire.ReadCode(b); return e }},
		{"ReadCert", mixedCert(), noCert, func(b []byte) api.Errno { _, e := wire.ReadCert(b); return e }},
	}
}

// instead: the numbers' bytes, but others in the place of one; and where these begin.
func instead(l []number, at int, other []byte) ([]byte, int) {
	front := bytesOf(l[:at])
	return join(front, other, bytesOf(l[at+1:])), len(front)
}

func TestWhatIsMixedIsRead(t *testing.T) {
	for _, r := range readings() {
		b := bytesOf(r.l)
		if e := r.read(b); e != api.OK {
			t.Errorf("P8.2: %s of what is right: %d", r.name, e)
		}
		for n := range b {
			r.code(t, b[:n:n], api.ErrShort, "bytes cut off")
			r.code(t, b[:n], api.ErrShort, "bytes cut off, the rest in the room behind")
		}
		for _, rest := range [][]byte{{0}, {1}, {0x80}, {0xff}, b} {
			r.code(t, join(b, rest), api.ErrRest, "bytes, and others behind them")
		}
	}
}

func TestLimitOfEachNumber(t *testing.T) {
	for _, r := range readings() {
		for at, n := range r.l {
			if n.below == 0 {
				continue
			}
			for _, much := range []uint64{n.below, n.below + 1, 1<<32 + n.n, 1 << 63, 1<<63 + n.n, math.MaxUint64} {
				b, from := instead(r.l, at, num(much))
				r.code(t, b, api.ErrRange, "a number that isn't below its limit")
				r.code(t, b[:from+len(num(much))], api.ErrRange, "a number that isn't below its limit, and nothing behind it")
				r.code(t, append(b, 0), api.ErrRange, "a number that isn't below its limit, and too much behind")
			}
			// The greatest that may be is no fault of its own; but what is behind it may be read as something else.
			b, from := instead(r.l, at, num(n.below-1))
			want := api.ErrShort
			if n.kinds > 0 {
				want = api.ErrKind
			}
			if at < len(r.l)-1 || n.kinds > 0 {
				r.code(t, b[:from+len(num(n.below-1))], want, "the greatest number that may be, and nothing behind it")
			}
		}
	}
}

func TestKinds(t *testing.T) {
	for _, r := range readings() {
		for at, n := range r.l {
			for kind := range uint64(256) {
				if n.kinds == 0 || kind > 0 && kind < n.kinds {
					continue
				}
				b, from := instead(r.l, at, num(kind))
				r.code(t, b, api.ErrKind, "a Kind that is none")
				r.code(t, b[:from+len(num(kind))], api.ErrKind, "a Kind that is none, and nothing behind it")
				r.code(t, append(b, 0), api.ErrKind, "a Kind that is none, and too much behind")
			}
		}
	}
}

func TestFormOfEachNumber(t *testing.T) {
	for _, r := range readings() {
		for at, n := range r.l {
			long := n.bytes()
			long[len(long)-1] |= 0x80
			if len(long) == 10 {
				long[9] = 2
			} else {
				long = append(long, 0)
			}
			b, _ := instead(r.l, at, long)
			r.code(t, b, api.ErrForm, "a number in more bytes than it needs, or beyond 64 bits")
		}
	}
}

func TestTheFirstFaultIsTold(t *testing.T) {
	for _, r := range readings() {
		for at, n := range r.l {
			if n.below == 0 || at == len(r.l)-1 {
				continue
			}
			b, from := instead(r.l, at, num(n.below))
			for _, behind := range [][]byte{{0x80, 0}, {0xff}, num(math.MaxUint64), slices.Repeat([]byte{0xff}, 20)} {
				r.code(t, join(b[:from], num(n.below), behind), api.ErrRange, "a number that isn't below its limit, and other faults behind it")
			}
		}
	}
}
