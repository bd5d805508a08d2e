package run

import (
	"outworker/api"
	"outworker/mach"
)

// under is how a run ended that is still under way.
const under = 0

// running is a run under way: its output as far as it has come (Left is the fuel that it has), and what else it goes on with.
type running struct {
	api.Output
	regs    int     // the slots stand behind so many places
	places  []int64 // what registers and slots have
	answers []int64 // what the next calls are answered
}

// block: does a block's instructions and its end, and tells which block is next, if the run is still under way.
func (r *running) block(b api.Block) int {
	for _, i := range b.Ins {
		if !mach.Free(i) && !r.paid() {
			return 0
		}
		r.step(i)
		if r.How != under {
			return 0
		}
	}
	if !r.paid() {
		return 0
	}
	return r.leave(b.End)
}

// paid: was there fuel for one thing more? It is spent; where there was none, the run is Starved.
func (r *running) paid() bool {
	if r.Left == 0 {
		r.How = api.Starved
		return false
	}
	r.Left--
	return true
}

// step: does an instruction that has been paid for.
func (r *running) step(i api.Ins) {
	p := r.places
	switch i.Kind {
	case api.KConst:
		p[i.D] = i.N
	case api.KMove:
		p[i.D] = p[i.A]
	case api.KBin:
		r.bin(i)
	case api.KLoad:
		p[i.D] = *r.word(p[i.A])
	case api.KStore:
		*r.word(p[i.A]) = p[i.B]
	case api.KCall:
		p[i.D] = r.call(i)
	case api.KSpill:
		p[r.regs+i.D] = p[i.A]
	case api.KFill:
		p[i.D] = p[r.regs+i.A]
	}
}

// bin: does a KBin, or traps on it.
func (r *running) bin(i api.Ins) {
	n, ok := result(i.Op, r.places[i.A], r.places[i.B])
	if !ok {
		r.How = api.Trapped
		return
	}
	r.places[i.D] = n
}

// result: what an Op makes of two numbers; false: nothing, it traps.
func result(o api.Op, a, b int64) (int64, bool) {
	switch o {
	case api.Add:
		return a + b, true
	case api.Sub:
		return a - b, true
	case api.Mul:
		return a * b, true
	case api.And:
		return a & b, true
	case api.Xor:
		return a ^ b, true
	case api.Less:
		if a < b {
			return 1, true
		}
		return 0, true
	}
	// What is left is Div. The language's own quotient is the one that is asked for, of the least number by -1 too.
	if b == 0 {
		return 0, false
	}
	return a / b, true
}

// word: the memory's word at a number, which may be any.
func (r *running) word(n int64) *int64 { return &r.Mem[uint64(n)%api.Words] }

// call: notes a call, and tells its answer.
func (r *running) call(i api.Ins) int64 {
	c := api.Call{N: i.N}
	for _, a := range i.Args {
		c.Args = append(c.Args, r.places[a])
	}
	r.Calls = append(r.Calls, c)
	if len(r.answers) == 0 {
		return 0
	}
	answer := r.answers[0]
	r.answers = r.answers[1:]
	return answer
}

// leave: does an end that has been paid for, and tells which block is next, if one is.
func (r *running) leave(e api.End) int {
	switch {
	case e.Kind == api.EReturn:
		r.How, r.Value = api.Returned, r.places[e.A]
		return 0
	case e.Kind == api.EBranch && r.places[e.A] == 0:
		return e.Else
	}
	return e.To
}
