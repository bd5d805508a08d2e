package mach_test

import (
	"math/rand"
	"slices"
	"testing"

	"outworker/api"
	"outworker/mach"
)

// faultOf: code's first fault, from the chapters' words once more: all faults that there are, in the order in which they name them.
func faultOf(c api.Code) api.Fault {
	if c.Params < 0 || c.Params > 4 || c.Regs < 3 || c.Regs > 8 || c.Slots < c.Params || c.Slots > 64 || len(c.Blocks) < 1 || len(c.Blocks) > 16 {
		return none
	}
	var all []api.Fault
	for n, b := range c.Blocks {
		if len(b.Ins) > 400 {
			all = append(all, api.Fault{Code: api.ErrMany, Block: n, At: -1})
		}
		for at, i := range b.Ins {
			for _, e := range errorsOf(i, c.Regs, c.Slots) {
				all = append(all, api.Fault{Code: e, Block: n, At: at})
			}
		}
		for _, e := range endErrorsOf(b.End, c.Regs, len(c.Blocks)) {
			all = append(all, api.Fault{Code: e, Block: n, At: len(b.Ins)})
		}
	}
	return slices.Concat(all, []api.Fault{{}})[0]
}

// errorsOf: all errors of an instruction, in order.
func errorsOf(i api.Ins, regs, slots int) []api.Errno {
	has, is := named[i.Kind]
	if !is {
		return []api.Errno{api.ErrKind}
	}
	fields := []api.Errno{fieldFault(has.d, i.D, regs, slots), fieldFault(has.a, i.A, regs, slots), fieldFault(has.b, i.B, regs, slots)}
	for _, r := range i.Args {
		fields = append(fields, fieldFault(register, r, regs, slots))
	}
	if i.Kind == api.KBin && (i.Op < 1 || i.Op > 7) || i.Kind != api.KBin && i.Op != 0 || !has.n && i.N != 0 || !has.args && len(i.Args) != 0 {
		fields = append(fields, api.ErrKind)
	}
	if len(i.Args) > 3 {
		fields = append(fields, api.ErrArgs)
	}
	var l []api.Errno
	for _, e := range []api.Errno{api.ErrKind, api.ErrArgs, api.ErrReg, api.ErrSlot} {
		if slices.Contains(fields, e) {
			l = append(l, e)
		}
	}
	return l
}

// endErrorsOf: all errors of an end, in order.
func endErrorsOf(e api.End, regs, blocks int) []api.Errno {
	var l []api.Errno
	jump, branch, ret := e.Kind == 1, e.Kind == 2, e.Kind == 3
	if !jump && !branch && !ret || jump && (e.A != 0 || e.Else != 0) || ret && (e.To != 0 || e.Else != 0) {
		l = append(l, api.ErrKind)
	}
	if !jump && (e.A < 0 || e.A >= regs) {
		l = append(l, api.ErrReg)
	}
	if !ret && (e.To < 0 || e.To >= blocks) || branch && (e.Else < 0 || e.Else >= blocks) {
		l = append(l, api.ErrBlock)
	}
	return l
}

// noise makes code that is right more often than not, the same in each run.
type noise struct{ *rand.Rand }

// rarely: true once in a hundred times.
func (r noise) rarely() bool { return r.Intn(100) == 0 }

// number: mostly one below limit.
func (r noise) number(limit int) int {
	if r.rarely() || limit < 1 {
		return r.Intn(80) - 8
	}
	return r.Intn(limit)
}

func (r noise) ins(regs, slots int) api.Ins {
	i := api.Ins{Kind: api.Kind(1 + r.Intn(8))}
	has := named[i.Kind]
	for _, c := range []struct {
		is    int
		field *int
	}{{has.d, &i.D}, {has.a, &i.A}, {has.b, &i.B}} {
		limit := []int{1, regs, slots}[c.is]
		*c.field = r.number(limit)
	}
	if has.n != r.rarely() {
		i.N = r.Int63() - r.Int63()
	}
	for has.args != r.rarely() && len(i.Args) < 4 && r.Intn(3) > 0 {
		i.Args = append(i.Args, r.number(regs))
	}
	if (i.Kind == api.KBin) != r.rarely() {
		i.Op = api.Op(1 + r.number(7))
	}
	if r.rarely() {
		i.Kind = api.Kind(r.Intn(12))
	}
	return i
}

func (r noise) end(regs, blocks int) api.End {
	e := api.End{Kind: api.EndKind(1 + r.Intn(3))}
	if (e.Kind != api.EJump) != r.rarely() {
		e.A = r.number(regs)
	}
	if (e.Kind != api.EReturn) != r.rarely() {
		e.To = r.number(blocks)
	}
	if (e.Kind == api.EBranch) != r.rarely() {
		e.Else = r.number(blocks)
	}
	if r.rarely() {
		e.Kind = api.EndKind(r.Intn(6))
	}
	return e
}

func (r noise) code() api.Code {
	c := api.Code{Params: r.number(5), Regs: 3 + r.number(6)}
	c.Slots = c.Params + r.number(65-c.Params)
	n := 1 + r.Intn(4)
	for range n {
		b := api.Block{End: r.end(c.Regs, n)}
		for range r.Intn(6) {
			b.Ins = append(b.Ins, r.ins(c.Regs, c.Slots))
		}
		c.Blocks = append(c.Blocks, b)
	}
	return c
}

func TestCheckOfNoise(t *testing.T) {
	r := noise{rand.New(rand.NewSource(5))}
	seen := map[api.Errno]int{}
	for range 100000 {
		c := r.code()
		want := faultOf(c)
		seen[want.Code]++
		if got := mach.Check(c); got != want {
			t.Fatalf("P5.1: Check of %+v: %+v, want %+v", c, got, want)
		}
	}
	for _, e := range []api.Errno{api.OK, api.ErrRange, api.ErrKind, api.ErrReg, api.ErrSlot, api.ErrBlock, api.ErrArgs} {
		if seen[e] < 100 {
			t.Errorf("only %d times %d: the noise shows too little", seen[e], e)
		}
	}
}
