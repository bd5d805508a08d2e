package exec_test

import (
	"math"
	"math/rand"
	"reflect"
	"testing"

	"outworker/api"
	"outworker/exec"
	"outworker/mach"
	"outworker/run"
)

// noise makes code and inputs, the same in each run.
type noise struct{ *rand.Rand }

// number: one that is small or at an edge more often than not.
func (r noise) number() int64 {
	edges := []int64{math.MinInt64, math.MaxInt64, -65, -64, 63, 64, 1 << 32}
	switch r.Intn(3) {
	case 0:
		return r.Int63n(9) - 4
	case 1:
		return edges[r.Intn(len(edges))]
	}
	return int64(r.Uint64())
}

// numbers: so many.
func (r noise) numbers(n int) []int64 {
	l := make([]int64, n)
	for at := range l {
		l[at] = r.number()
	}
	return l
}

// ins: an instruction over so many registers and slots.
func (r noise) ins(regs, slots int) api.Ins {
	d, a, b := r.Intn(regs), r.Intn(regs), r.Intn(regs)
	switch r.Intn(10) {
	case 0:
		return api.Ins{Kind: api.KConst, D: d, N: r.number()}
	case 1:
		return api.Ins{Kind: api.KMove, D: d, A: a}
	case 2, 3:
		return api.Ins{Kind: api.KBin, Op: api.Op(1 + r.Intn(7)), D: d, A: a, B: b}
	case 4:
		return api.Ins{Kind: api.KLoad, D: d, A: a}
	case 5:
		return api.Ins{Kind: api.KStore, A: a, B: b}
	case 6:
		return api.Ins{Kind: api.KCall, D: d, N: r.number(), Args: []int{a, b, d}[:r.Intn(4)]}
	}
	if slots == 0 {
		return api.Ins{Kind: api.KMove, D: d, A: a}
	}
	if r.Intn(2) == 0 {
		return spill(r.Intn(slots), a)
	}
	return fill(d, r.Intn(slots))
}

// code: some, without a fault.
func (r noise) code() api.Code {
	c := api.Code{Params: r.Intn(5), Regs: 3 + r.Intn(6)}
	c.Slots = c.Params + r.Intn(6)
	n := 1 + r.Intn(5)
	for range n {
		var b api.Block
		for range r.Intn(8) {
			b.Ins = append(b.Ins, r.ins(c.Regs, c.Slots))
		}
		switch r.Intn(4) {
		case 0:
			b.End = api.End{Kind: api.EJump, To: r.Intn(n)}
		case 1:
			b.End = giving(r.Intn(c.Regs))
		default:
			b.End = api.End{Kind: api.EBranch, A: r.Intn(c.Regs), To: r.Intn(n), Else: r.Intn(n)}
		}
		c.Blocks = append(c.Blocks, b)
	}
	return c
}

// asFunc: a function that does what code does: places are its vregs, spills and fills its moves, and block 0 is entered behind one more, which brings the parameters to the first slots' places and makes their vregs 0 again.
func asFunc(c api.Code) api.Func {
	f := api.Func{Params: c.Params, Vregs: c.Regs + c.Slots + 1}
	zero := f.Vregs - 1
	var entry api.Block
	for n := range c.Params {
		entry.Ins = append(entry.Ins, api.Ins{Kind: api.KMove, D: c.Regs + n, A: n})
	}
	// With few registers some parameters are slots' places already: back to front none is lost.
	for l, r := 0, len(entry.Ins)-1; l < r; l, r = l+1, r-1 {
		entry.Ins[l], entry.Ins[r] = entry.Ins[r], entry.Ins[l]
	}
	for n := range min(c.Params, c.Regs) {
		entry.Ins = append(entry.Ins, api.Ins{Kind: api.KMove, D: n, A: zero})
	}
	entry.End = api.End{Kind: api.EJump, To: 1}
	f.Blocks = []api.Block{entry}
	for _, b := range c.Blocks {
		f.Blocks = append(f.Blocks, asBlock(b, c.Regs))
	}
	return f
}

// asBlock: a block over places in the place of registers and slots, one block further on.
func asBlock(b api.Block, regs int) api.Block {
	var m api.Block
	for _, i := range b.Ins {
		switch i.Kind {
		case api.KSpill:
			i = api.Ins{Kind: api.KMove, D: regs + i.D, A: i.A}
		case api.KFill:
			i = api.Ins{Kind: api.KMove, D: i.D, A: regs + i.A}
		}
		m.Ins = append(m.Ins, i)
	}
	m.End = b.End
	if m.End.Kind != api.EReturn {
		m.End.To++
	}
	if m.End.Kind == api.EBranch {
		m.End.Else++
	}
	return m
}

func TestCodeOfNoise(t *testing.T) {
	r := noise{rand.New(rand.NewSource(7))}
	ended := map[int]int{}
	for range 20000 {
		c := r.code()
		if fault := mach.Check(c); fault != (api.Fault{}) {
			t.Fatalf("code that should be right has fault %v", fault)
		}
		in := api.Input{Args: r.numbers(c.Params), Mem: r.numbers(r.Intn(70)), Answers: r.numbers(r.Intn(6)), Fuel: r.Intn(60)}
		got, e := exec.Exec(c, in)
		ended[got.How]++
		in.Fuel++ // the jump to block 0
		right, of := run.Run(asFunc(c), in)
		if e != api.OK || of != api.OK || !reflect.DeepEqual(got, right) {
			t.Fatalf("P7.1: Exec(%v, %v) is %v, error %d; not %v, error %d", c, in, got, e, right, of)
		}
	}
	for how := api.Returned; how <= api.Starved; how++ {
		if ended[how] < 500 {
			t.Errorf("of the noise only %d runs ended %d", ended[how], how)
		}
	}
}

func TestErrorsOfNoise(t *testing.T) {
	r := noise{rand.New(rand.NewSource(71))}
	seen := map[api.Errno]int{}
	for range 20000 {
		c := r.code()
		in := api.Input{Args: r.numbers(c.Params), Fuel: r.Intn(60)}
		switch r.Intn(6) {
		case 0:
			c.Regs -= 1 + r.Intn(3)
		case 1:
			c.Slots -= 1 + r.Intn(3)
		case 2:
			c.Blocks = c.Blocks[:r.Intn(len(c.Blocks))]
		}
		if r.Intn(4) == 0 {
			in.Args = r.numbers(r.Intn(6))
		}
		if r.Intn(4) == 0 {
			in.Fuel = int(r.number())
		}
		right := run.Check(c.Params, in)
		if mach.Check(c) != (api.Fault{}) {
			right = api.ErrShape
		}
		out, e := exec.Exec(c, in)
		if e != right {
			t.Fatalf("P7.1: Exec(%v, %v) answers error %d, not %d", c, in, e, right)
		}
		if e != api.OK && !reflect.DeepEqual(out, api.Output{}) {
			t.Fatalf("R3: Exec(%v, %v) answers error %d beside %v", c, in, e, out)
		}
		seen[e]++
	}
	for _, e := range []api.Errno{api.OK, api.ErrShape, api.ErrArgs, api.ErrRange} {
		if seen[e] < 500 {
			t.Errorf("only %d times %d: the noise shows too little", seen[e], e)
		}
	}
}
