package run_test

import (
	"math/rand"
	"reflect"
	"testing"

	"outworker/api"
	"outworker/ir"
	"outworker/run"
)

// place is a register (of bank 0) or a slot (of bank 1).
type place struct{ bank, n int }

// slow is a run, from the chapter's words once more: places and words are kept in maps, and numbers are worked out without end, then gone round.
type slow struct {
	has   map[place]int64
	words map[int64]int64
	calls []api.Call
	spent int
	in    api.Input
}

// begun: a run at its beginning.
func begun(regs, first int, in api.Input) *slow {
	s := &slow{has: map[place]int64{}, words: map[int64]int64{}, in: in}
	for n, v := range in.Args {
		if at := first + n; at < regs {
			s.has[place{0, at}] = v
		} else {
			s.has[place{1, at - regs}] = v
		}
	}
	for n, v := range in.Mem {
		if n < 64 {
			s.words[int64(n)] = v
		}
	}
	return s
}

// where: the place of the memory that a number is.
func where(n int64) int64 { return (n%64 + 64) % 64 }

// does: an instruction; false: it traps.
func (s *slow) does(i api.Ins) bool {
	d, a, b := place{0, i.D}, place{0, i.A}, place{0, i.B}
	switch i.Kind {
	case api.KSpill:
		s.has[place{1, i.D}] = s.has[a]
	case api.KFill:
		s.has[d] = s.has[place{1, i.A}]
	case api.KConst:
		s.has[d] = i.N
	case api.KMove:
		s.has[d] = s.has[a]
	case api.KLoad:
		s.has[d] = s.words[where(s.has[a])]
	case api.KStore:
		s.words[where(s.has[a])] = s.has[b]
	case api.KCall:
		c := api.Call{N: i.N}
		for _, v := range i.Args {
			c.Args = append(c.Args, s.has[place{0, v}])
		}
		s.has[d] = 0
		if n := len(s.calls); n < len(s.in.Answers) {
			s.has[d] = s.in.Answers[n]
		}
		s.calls = append(s.calls, c)
	case api.KBin:
		if i.Op == api.Div && s.has[b] == 0 {
			return false
		}
		s.has[d] = exact(i.Op, s.has[a], s.has[b])
	}
	return true
}

// output: what is told when the run has ended so.
func (s *slow) output(how int, value int64) api.Output {
	out := api.Output{How: how, Value: value, Calls: s.calls, Left: s.in.Fuel - s.spent}
	for n, v := range s.words {
		out.Mem[n] = v
	}
	return out
}

// costs: is there fuel for what costs so much? It is spent.
func (s *slow) costs(n int) bool {
	if s.spent+n > s.in.Fuel {
		return false
	}
	s.spent += n
	return true
}

// outputOf: the output of a run.
func outputOf(blocks []api.Block, regs, first int, in api.Input) api.Output {
	s := begun(regs, first, in)
	at := 0
	for {
		for _, i := range blocks[at].Ins {
			cost := 1
			if i.Kind == api.KMove || i.Kind == api.KSpill || i.Kind == api.KFill {
				cost = 0
			}
			if !s.costs(cost) {
				return s.output(api.Starved, 0)
			}
			if !s.does(i) {
				return s.output(api.Trapped, 0)
			}
		}
		if !s.costs(1) {
			return s.output(api.Starved, 0)
		}
		e := blocks[at].End
		if e.Kind == api.EReturn {
			return s.output(api.Returned, s.has[place{0, e.A}])
		}
		at = e.To
		if e.Kind == api.EBranch && s.has[place{0, e.A}] == 0 {
			at = e.Else
		}
	}
}

// noise makes blocks and inputs, the same in each run.
type noise struct{ *rand.Rand }

// number: one that is small or at an edge more often than not.
func (r noise) number() int64 {
	switch r.Intn(3) {
	case 0:
		return r.Int63n(9) - 4
	case 1:
		return edges[r.Intn(len(edges))]
	}
	return int64(r.Uint64())
}

// numbers: fewer than so many.
func (r noise) numbers(below int) []int64 {
	l := make([]int64, r.Intn(below))
	for n := range l {
		l[n] = r.number()
	}
	return l
}

// ins: an instruction over so many registers and slots.
func (r noise) ins(regs, slots int) api.Ins {
	kinds := 6
	if slots > 0 {
		kinds = 8
	}
	i := api.Ins{Kind: api.Kind(1 + r.Intn(kinds)), D: r.Intn(regs), A: r.Intn(regs), B: r.Intn(regs), N: r.number(), Op: api.Op(1 + r.Intn(7))}
	if i.Kind != api.KBin {
		i.Op = 0
	}
	if i.Kind != api.KBin && i.Kind != api.KStore {
		i.B = 0
	}
	if i.Kind != api.KConst && i.Kind != api.KCall {
		i.N = 0
	}
	switch i.Kind {
	case api.KConst:
		i.A = 0
	case api.KStore:
		i.D = 0
	case api.KCall:
		i.A = 0
		for range r.Intn(4) {
			i.Args = append(i.Args, r.Intn(regs))
		}
	case api.KSpill:
		i.D = r.Intn(slots)
	case api.KFill:
		i.A = r.Intn(slots)
	}
	return i
}

// blocks: some of them, over so many registers and slots.
func (r noise) blocks(regs, slots int) []api.Block {
	l := make([]api.Block, 1+r.Intn(6))
	for n := range l {
		for range r.Intn(8) {
			l[n].Ins = append(l[n].Ins, r.ins(regs, slots))
		}
		switch e := &l[n].End; r.Intn(4) {
		case 0:
			*e = api.End{Kind: api.EJump, To: r.Intn(len(l))}
		case 1:
			*e = api.End{Kind: api.EReturn, A: r.Intn(regs)}
		default:
			*e = api.End{Kind: api.EBranch, A: r.Intn(regs), To: r.Intn(len(l)), Else: r.Intn(len(l))}
		}
	}
	return l
}

// input: one with so many arguments.
func (r noise) input(args int) api.Input {
	in := api.Input{Args: make([]int64, args), Mem: r.numbers(70), Answers: r.numbers(6), Fuel: r.Intn(60)}
	for n := range in.Args {
		in.Args[n] = r.number()
	}
	return in
}

func TestRunOfNoise(t *testing.T) {
	r := noise{rand.New(rand.NewSource(6))}
	ended := map[int]int{}
	for range 20000 {
		f := api.Func{Vregs: 1 + r.Intn(8)}
		f.Params = r.Intn(min(f.Vregs, 4) + 1)
		f.Blocks = r.blocks(f.Vregs, 0)
		in := r.input(f.Params)
		if fault := ir.Check(f); fault != (api.Fault{}) {
			t.Fatalf("a function that should be right has fault %v", fault)
		}
		got, e := run.Run(f, in)
		if right := outputOf(f.Blocks, f.Vregs, 0, in); e != api.OK || !reflect.DeepEqual(got, right) {
			t.Fatalf("P6.1: Run(%v, %v) is %v, error %d; not %v", f, in, got, e, right)
		}
		ended[got.How]++
	}
	for how := api.Returned; how <= api.Starved; how++ {
		if ended[how] < 500 {
			t.Errorf("of the noise only %d runs ended %d", ended[how], how)
		}
	}
}

func TestDoOfNoise(t *testing.T) {
	r := noise{rand.New(rand.NewSource(62))}
	for range 20000 {
		regs, slots := 1+r.Intn(8), r.Intn(10)
		l := r.blocks(regs, slots)
		args := r.Intn(min(regs+slots, 4) + 1)
		first := r.Intn(regs + slots - args + 1)
		in := r.input(args)
		got := run.Do(l, regs, slots, first, in)
		if right := outputOf(l, regs, first, in); !reflect.DeepEqual(got, right) {
			t.Fatalf("P6.2: Do(%v, %d, %d, %d, %v) is %v, not %v", l, regs, slots, first, in, got, right)
		}
	}
}
