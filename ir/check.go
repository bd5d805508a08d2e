package ir

import "outworker/api"

// Check: a function's first fault.
func Check(f api.Func) api.Fault {
	if !sized(f) {
		return api.Fault{Code: api.ErrRange, Block: nowhere, At: nowhere}
	}
	for n, b := range f.Blocks {
		if e, at := blockFault(b, f.Vregs, len(f.Blocks)); e != api.OK {
			return api.Fault{Code: e, Block: n, At: at}
		}
	}
	return api.Fault{}
}

// sized: has a function as many parameters, vregs and blocks as it may have?
func sized(f api.Func) bool {
	return f.Params >= 0 && f.Params <= api.MaxParams &&
		f.Vregs >= f.Params && f.Vregs <= api.MaxVregs &&
		len(f.Blocks) >= 1 && len(f.Blocks) <= api.MaxBlocks
}

// blockFault: a block's first fault, and at which place.
func blockFault(b api.Block, vregs, blocks int) (api.Errno, int) {
	if len(b.Ins) > api.MaxIns {
		return api.ErrMany, nowhere
	}
	for at, i := range b.Ins {
		if e := insFault(i, vregs); e != api.OK {
			return e, at
		}
	}
	return Ends(b.End, vregs, blocks), len(b.Ins)
}

// insFault: an instruction's fault, of so many vregs.
func insFault(i api.Ins, vregs int) api.Errno {
	if !formed(i) {
		return api.ErrKind
	}
	if len(i.Args) > api.MaxArgs {
		return api.ErrArgs
	}
	for _, v := range Uses(i) {
		if !below(v, vregs) {
			return api.ErrVreg
		}
	}
	if d, ok := Gives(i); ok && !below(d, vregs) {
		return api.ErrVreg
	}
	return api.OK
}

// formed: is an instruction of a function's kinds, its Op one that it may have, and all that its kind doesn't name 0?
func formed(i api.Ins) bool {
	bare := i.Op == 0 && len(i.Args) == 0
	switch i.Kind {
	case api.KConst:
		return bare && i.A == 0 && i.B == 0
	case api.KMove, api.KLoad:
		return bare && i.B == 0 && i.N == 0
	case api.KBin:
		return i.Op >= api.Add && i.Op <= api.Div && i.N == 0 && len(i.Args) == 0
	case api.KStore:
		return bare && i.D == 0 && i.N == 0
	case api.KCall:
		return i.Op == 0 && i.A == 0 && i.B == 0
	}
	return false
}

// Ends: an end's fault, of so many vregs, so many blocks.
func Ends(e api.End, vregs, blocks int) api.Errno {
	if !endFormed(e) {
		return api.ErrKind
	}
	if a, ok := Last(e); ok && !below(a, vregs) {
		return api.ErrVreg
	}
	for _, to := range targets(e) {
		if !below(to, blocks) {
			return api.ErrBlock
		}
	}
	return api.OK
}

// endFormed: is an end of a kind that there is, and all that its kind doesn't name 0?
func endFormed(e api.End) bool {
	switch e.Kind {
	case api.EJump:
		return e.A == 0 && e.Else == 0
	case api.EBranch:
		return true
	case api.EReturn:
		return e.To == 0 && e.Else == 0
	}
	return false
}

// targets: the blocks that an end may go to.
func targets(e api.End) []int {
	switch e.Kind {
	case api.EJump:
		return []int{e.To}
	case api.EBranch:
		return []int{e.To, e.Else}
	}
	return nil
}

// below: is a number from 0 on, below a limit?
func below(n, limit int) bool { return n >= 0 && n < limit }
