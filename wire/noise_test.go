package wire_test

import (
	"bytes"
	"math"
	"math/rand"
	"testing"

	"outworker/api"
	"outworker/ir"
	"outworker/mach"
	"outworker/wire"
)

// plainReader reads by the chapters' words once more.
type plainReader struct {
	b []byte
	e api.Errno
}

func (r *plainReader) fail(e api.Errno) {
	if r.e == api.OK {
		r.e = e
	}
}

func (r *plainReader) num() uint64 {
	var n uint64
	for at := 0; r.e == api.OK; at++ {
		switch {
		case at == len(r.b):
			r.fail(api.ErrShort)
		case at == 9 && r.b[at] > 1, at > 0 && r.b[at] == 0:
			r.fail(api.ErrForm)
		default:
			n += uint64(r.b[at]&127) << (7 * at)
			if r.b[at] < 128 {
				r.b = r.b[at+1:]
				return n
			}
		}
	}
	return 0
}

func (r *plainReader) below(limit uint64) int {
	n := r.num()
	if n >= limit {
		r.fail(api.ErrRange)
		return 0
	}
	return int(n)
}

// filled: the fields that a layout names, and how many Args.
func (r *plainReader) filled(layout string) (got map[rune]int, n int64, args []int) {
	got = map[rune]int{}
	for _, c := range layout {
		switch c {
		case 'N':
			u := r.num()
			n = int64(u / 2)
			if u%2 == 1 {
				n = -n - 1
			}
		case 'O':
			got[c] = r.below(256)
		case 'L':
			for many := r.below(4); many > 0; many-- {
				args = append(args, r.below(4096))
			}
		default:
			got[c] = r.below(4096)
		}
	}
	return got, n, args
}

func (r *plainReader) blocks(long uint64) []api.Block {
	var l []api.Block
	for blocks := r.below(17); blocks > 0; blocks-- {
		var b api.Block
		for ins := r.below(long); ins > 0; ins-- {
			kind := api.Kind(r.below(256))
			if kind < 1 || kind > 8 {
				r.fail(api.ErrKind)
			}
			got, n, args := r.filled(layout[kind])
			b.Ins = append(b.Ins, api.Ins{Kind: kind, Op: api.Op(got['O']), D: got['D'], A: got['A'], B: got['B'], N: n, Args: args})
		}
		kind := api.EndKind(r.below(256))
		if kind < 1 || kind > 3 {
			r.fail(api.ErrKind)
		}
		got, _, _ := r.filled(endLayout[kind])
		b.End = api.End{Kind: kind, A: got['A'], To: got['T'], Else: got['E']}
		l = append(l, b)
	}
	return l
}

// ended: the fault, or ErrRest.
func (r *plainReader) ended() api.Errno {
	if len(r.b) > 0 {
		r.fail(api.ErrRest)
	}
	return r.e
}

func plainFunc(b []byte) (api.Func, api.Errno) {
	r := &plainReader{b: b}
	f := api.Func{Params: r.below(4096)}
	f.Vregs = r.below(4096)
	f.Blocks = r.blocks(33)
	if e := r.ended(); e != api.OK {
		return api.Func{}, e
	}
	if ir.Check(f) != (api.Fault{}) {
		return api.Func{}, api.ErrShape
	}
	return f, api.OK
}

func plainCode(b []byte) (api.Code, api.Errno) {
	r := &plainReader{b: b}
	c := api.Code{Params: r.below(4096)}
	c.Regs = r.below(4096)
	c.Slots = r.below(4096)
	c.Blocks = r.blocks(401)
	if e := r.ended(); e != api.OK {
		return api.Code{}, e
	}
	if mach.Check(c) != (api.Fault{}) {
		return api.Code{}, api.ErrShape
	}
	return c, api.OK
}

func plainCert(b []byte) ([][]api.Pair, api.Errno) {
	r := &plainReader{b: b}
	var l [][]api.Pair
	for lists := r.below(17); lists > 0; lists-- {
		var pairs []api.Pair
		for many := r.below(65536); many > 0 && r.e == api.OK; many-- {
			v := r.below(4096)
			pairs = append(pairs, api.Pair{V: v, L: r.below(4096)})
		}
		l = append(l, pairs)
	}
	if e := r.ended(); e != api.OK {
		return nil, e
	}
	return l, api.OK
}

// noise makes functions, code, certificates, and bytes that aren't quite theirs; the same in each run.
type noise struct{ *rand.Rand }

func (r noise) n() int64 {
	edges := []int64{math.MinInt64, math.MaxInt64, -65, -64, 63, 64, -1, 0}
	if r.Intn(2) == 0 {
		return edges[r.Intn(len(edges))]
	}
	return int64(r.Uint64()) >> r.Intn(64)
}

// ins: an instruction, with vregs or registers below regs; of code with slots below slots (0: of a function).
func (r noise) ins(regs, slots int) api.Ins {
	d, a, b := r.Intn(regs), r.Intn(regs), r.Intn(regs)
	kinds := 8
	if slots == 0 {
		kinds = 6
	}
	switch kind := api.Kind(1 + r.Intn(kinds)); kind {
	case api.KConst:
		return api.Ins{Kind: kind, D: d, N: r.n()}
	case api.KBin:
		return api.Ins{Kind: kind, Op: api.Op(1 + r.Intn(7)), D: d, A: a, B: b}
	case api.KStore:
		return api.Ins{Kind: kind, A: a, B: b}
	case api.KCall:
		return api.Ins{Kind: kind, D: d, N: r.n(), Args: []int{a, b, r.Intn(regs)}[:r.Intn(4)]}
	case api.KSpill:
		return api.Ins{Kind: kind, D: r.Intn(slots), A: a}
	case api.KFill:
		return api.Ins{Kind: kind, D: d, A: r.Intn(slots)}
	default:
		return api.Ins{Kind: kind, D: d, A: a}
	}
}

func (r noise) blocks(regs, slots int) []api.Block {
	var l []api.Block
	n := 1 + r.Intn(4)
	for range n {
		var b api.Block
		for range r.Intn(8) {
			b.Ins = append(b.Ins, r.ins(regs, slots))
		}
		switch r.Intn(3) {
		case 0:
			b.End = api.End{Kind: api.EJump, To: r.Intn(n)}
		case 1:
			b.End = api.End{Kind: api.EBranch, A: r.Intn(regs), To: r.Intn(n), Else: r.Intn(n)}
		case 2:
			b.End = back(r.Intn(regs))
		}
		l = append(l, b)
	}
	return l
}

func (r noise) function() api.Func {
	f := api.Func{Params: r.Intn(5)}
	f.Vregs = f.Params + 1 + r.Intn(32-f.Params)
	f.Blocks = r.blocks(f.Vregs, 0)
	return f
}

func (r noise) code() api.Code {
	c := api.Code{Params: r.Intn(5), Regs: 3 + r.Intn(6)}
	c.Slots = c.Params + 1 + r.Intn(64-c.Params)
	c.Blocks = r.blocks(c.Regs, c.Slots)
	return c
}

func (r noise) cert() [][]api.Pair {
	l := make([][]api.Pair, r.Intn(17))
	for n := range l {
		for range r.Intn(5) {
			l[n] = append(l[n], api.Pair{V: r.Intn(4096) >> r.Intn(12), L: r.Intn(4096) >> r.Intn(12)})
		}
	}
	return l
}

// spoilt: bytes changed in a place or two, or cut, or longer.
func (r noise) spoilt(b []byte) []byte {
	b = bytes.Clone(b)
	for range 1 + r.Intn(2) {
		at := r.Intn(len(b) + 1)
		switch r.Intn(6) {
		case 0:
			b = b[:at]
		case 1:
			b = join(b[:at], []byte{byte(r.Intn(256))}, b[at:])
		case 2:
			b = join(b[:at], num(r.Uint64()>>r.Intn(64)), b[min(at+1, len(b)):])
		case 3:
			b = join(b[:at], b[min(at+1+r.Intn(3), len(b)):])
		default:
			if at < len(b) {
				b[at] = byte(r.Intn(256)) >> r.Intn(8)
			}
		}
	}
	return b
}

// enough: has each of these errors been seen?
func enough(t *testing.T, seen map[api.Errno]int, l ...api.Errno) {
	t.Helper()
	for _, e := range l {
		if seen[e] < 100 {
			t.Errorf("only %d times %d: the noise shows too little", seen[e], e)
		}
	}
}

func TestFunctionsOfNoise(t *testing.T) {
	r := noise{rand.New(rand.NewSource(8))}
	seen := map[api.Errno]int{}
	for range 20000 {
		f := r.function()
		right := bytesOf(funcNumbers(f))
		funcIs(t, f, right, "noise")
		b := r.spoilt(right)
		want, code := plainFunc(b)
		seen[code]++
		got, e := wire.ReadFunc(b)
		if e != code || !same(got, want) {
			t.Fatalf("P8.2: ReadFunc of % x: %+v, %d; want %+v, %d", b, got, e, want, code)
		}
		if again, _ := wire.Func(got); e == api.OK && !bytes.Equal(again, b) {
			t.Fatalf("P8.1, P8.2: Func of ReadFunc of % x: % x", b, again)
		}
	}
	enough(t, seen, api.OK, api.ErrShort, api.ErrRange, api.ErrForm, api.ErrRest, api.ErrKind, api.ErrShape)
}

func TestCodeOfNoise(t *testing.T) {
	r := noise{rand.New(rand.NewSource(81))}
	seen := map[api.Errno]int{}
	for range 20000 {
		c := r.code()
		right := bytesOf(codeNumbers(c))
		codeIs(t, c, right, "noise")
		b := r.spoilt(right)
		want, code := plainCode(b)
		seen[code]++
		got, e := wire.ReadCode(b)
		if e != code || !same(got, want) {
			t.Fatalf("P8.2: ReadCode of % x: %+v, %d; want %+v, %d", b, got, e, want, code)
		}
		if again, _ := wire.Code(got); e == api.OK && !bytes.Equal(again, b) {
			t.Fatalf("P8.1, P8.2: Code of ReadCode of % x: % x", b, again)
		}
	}
	enough(t, seen, api.OK, api.ErrShort, api.ErrRange, api.ErrForm, api.ErrRest, api.ErrKind, api.ErrShape)
}

func TestCertificatesOfNoise(t *testing.T) {
	r := noise{rand.New(rand.NewSource(82))}
	seen := map[api.Errno]int{}
	for range 20000 {
		l := r.cert()
		right := bytesOf(certNumbers(l))
		certIs(t, l, right, "noise")
		b := r.spoilt(right)
		want, code := plainCert(b)
		seen[code]++
		got, e := wire.ReadCert(b)
		if e != code || !same(got, want) {
			t.Fatalf("P8.2: ReadCert of % x: %+v, %d; want %+v, %d", b, got, e, want, code)
		}
		if again, _ := wire.Cert(got); e == api.OK && !bytes.Equal(again, b) {
			t.Fatalf("P8.1, P8.2: Cert of ReadCert of % x: % x", b, again)
		}
	}
	enough(t, seen, api.OK, api.ErrShort, api.ErrRange, api.ErrForm, api.ErrRest)
}

func TestBytesOfNoise(t *testing.T) {
	r := noise{rand.New(rand.NewSource(83))}
	for range 100000 {
		b := make([]byte, r.Intn(30))
		for n := range b {
			b[n] = byte(r.Intn(256)) >> r.Intn(8)
		}
		f, e := wire.ReadFunc(b)
		if want, code := plainFunc(b); e != code || !same(f, want) {
			t.Fatalf("P8.2: ReadFunc of % x: %+v, %d; want %+v, %d", b, f, e, want, code)
		}
		c, e := wire.ReadCode(b)
		if want, code := plainCode(b); e != code || !same(c, want) {
			t.Fatalf("P8.2: ReadCode of % x: %+v, %d; want %+v, %d", b, c, e, want, code)
		}
		l, e := wire.ReadCert(b)
		if want, code := plainCert(b); e != code || !same(l, want) {
			t.Fatalf("P8.2: ReadCert of % x: %v, %d; want %v, %d", b, l, e, want, code)
		}
	}
}
