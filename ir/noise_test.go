package ir_test

import (
	"math/rand"
	"slices"
	"testing"

	"outworker/api"
	"outworker/ir"
)

// faultOf: a function's first fault, from the chapter's words once more: all faults that there are, in the order in which it names them.
func faultOf(f api.Func) api.Fault {
	if f.Params < 0 || f.Params > 4 || f.Vregs < f.Params || f.Vregs > 32 || len(f.Blocks) < 1 || len(f.Blocks) > 16 {
		return api.Fault{Code: api.ErrRange, Block: -1, At: -1}
	}
	var all []api.Fault
	for n, b := range f.Blocks {
		if len(b.Ins) > 32 {
			all = append(all, api.Fault{Code: api.ErrMany, Block: n, At: -1})
		}
		for at, i := range b.Ins {
			for _, e := range errorsOf(i, f.Vregs) {
				all = append(all, api.Fault{Code: e, Block: n, At: at})
			}
		}
		for _, e := range endErrorsOf(b.End, f.Vregs, len(f.Blocks)) {
			all = append(all, api.Fault{Code: e, Block: n, At: len(b.Ins)})
		}
	}
	return slices.Concat(all, []api.Fault{{}})[0]
}

// errorsOf: all errors of an instruction, in order.
func errorsOf(i api.Ins, vregs int) []api.Errno {
	var l []api.Errno
	has, is := named[i.Kind]
	opRight := i.Op == 0
	if i.Kind == api.KBin {
		opRight = i.Op != 0 && i.Op < 8
	}
	if !is || !opRight || !has.d && i.D != 0 || !has.a && i.A != 0 || !has.b && i.B != 0 || !has.n && i.N != 0 || !has.args && len(i.Args) != 0 {
		l = append(l, api.ErrKind)
	}
	if len(i.Args) > 3 {
		l = append(l, api.ErrArgs)
	}
	for _, v := range append([]int{i.D, i.A, i.B}, i.Args...) {
		// A field that is no vreg's is 0, or ErrKind stands ahead; and 0 is wrong only without vregs, where each kind has a field that is wrong.
		if v < 0 || v >= vregs {
			l = append(l, api.ErrVreg)
		}
	}
	return l
}

// endErrorsOf: all errors of an end, in order.
func endErrorsOf(e api.End, vregs, blocks int) []api.Errno {
	var l []api.Errno
	jump, branch, ret := e.Kind == 1, e.Kind == 2, e.Kind == 3
	if !jump && !branch && !ret || jump && (e.A != 0 || e.Else != 0) || ret && (e.To != 0 || e.Else != 0) {
		l = append(l, api.ErrKind)
	}
	if !jump && (e.A < 0 || e.A >= vregs) {
		l = append(l, api.ErrVreg)
	}
	if !ret && (e.To < 0 || e.To >= blocks) || branch && (e.Else < 0 || e.Else >= blocks) {
		l = append(l, api.ErrBlock)
	}
	return l
}

// noise makes functions that are right more often than not, the same in each run.
type noise struct{ *rand.Rand }

// rarely: true once in a hundred times.
func (r noise) rarely() bool { return r.Intn(100) == 0 }

// number: mostly one below limit.
func (r noise) number(limit int) int {
	if r.rarely() || limit < 1 {
		return r.Intn(50) - 5
	}
	return r.Intn(limit)
}

func (r noise) ins(vregs int) api.Ins {
	i := api.Ins{Kind: api.Kind(1 + r.Intn(6))}
	has := named[i.Kind]
	for _, c := range []struct {
		has   bool
		field *int
	}{{has.d, &i.D}, {has.a, &i.A}, {has.b, &i.B}} {
		if c.has != r.rarely() {
			*c.field = r.number(vregs)
		}
	}
	if has.n != r.rarely() {
		i.N = r.Int63() - r.Int63()
	}
	for has.args != r.rarely() && len(i.Args) < 4 && r.Intn(3) > 0 {
		i.Args = append(i.Args, r.number(vregs))
	}
	if (i.Kind == api.KBin) != r.rarely() {
		i.Op = api.Op(1 + r.number(7))
	}
	if r.rarely() {
		i.Kind = api.Kind(r.Intn(12))
	}
	return i
}

func (r noise) end(vregs, blocks int) api.End {
	e := api.End{Kind: api.EndKind(1 + r.Intn(3))}
	if (e.Kind != api.EJump) != r.rarely() {
		e.A = r.number(vregs)
	}
	if (e.Kind != api.EReturn) != r.rarely() {
		e.To = r.number(blocks)
	}
	if (e.Kind == api.EBranch) != r.rarely() {
		e.Else = r.number(blocks)
	}
	if r.rarely() {
		e.Kind = api.EndKind(r.Intn(6))
	}
	return e
}

func (r noise) function() api.Func {
	f := api.Func{Params: r.number(5)}
	f.Vregs = f.Params + r.number(33-f.Params)
	n := 1 + r.Intn(4)
	for range n {
		b := api.Block{End: r.end(f.Vregs, n)}
		for range r.Intn(6) {
			b.Ins = append(b.Ins, r.ins(f.Vregs))
		}
		f.Blocks = append(f.Blocks, b)
	}
	return f
}

func TestCheckOfNoise(t *testing.T) {
	r := noise{rand.New(rand.NewSource(4))}
	seen := map[api.Errno]int{}
	for range 100000 {
		f := r.function()
		want := faultOf(f)
		seen[want.Code]++
		if got := ir.Check(f); got != want {
			t.Fatalf("P4.2: Check of %+v: %+v, want %+v", f, got, want)
		}
	}
	for _, e := range []api.Errno{api.OK, api.ErrRange, api.ErrKind, api.ErrVreg, api.ErrBlock, api.ErrArgs} {
		if seen[e] < 100 {
			t.Errorf("only %d functions with %d: the noise shows too little", seen[e], e)
		}
	}
}

func TestEndsOfNoise(t *testing.T) {
	r := noise{rand.New(rand.NewSource(5))}
	for range 100000 {
		vregs, blocks := r.number(33), r.number(17)
		e := r.end(vregs, blocks)
		want := slices.Concat(endErrorsOf(e, vregs, blocks), []api.Errno{api.OK})[0]
		ends(t, e, vregs, blocks, want)
	}
}
