package wire

import (
	"outworker/api"
	"outworker/leb"
)

// fieldsOf: what answers the reader's next field, each time that it is called.
func fieldsOf(r *leb.Reader) func() int {
	return func() int { return r.Below(mostField + 1) }
}

// takeList: how many things there are, and they.
func takeList[T any](r *leb.Reader, most int, thing func() T) []T {
	var l []T
	for range r.Below(most + 1) {
		// Whoever wrote the bytes may say that there are many, and give none.
		if r.Code() != api.OK {
			return nil
		}
		l = append(l, thing())
	}
	return l
}

// takeBlocks: blocks of so many instructions at most.
func takeBlocks(r *leb.Reader, most int) []api.Block {
	ins := func() api.Ins { return takeIns(r) }
	return takeList(r, api.MaxBlocks, func() api.Block {
		return api.Block{Ins: takeList(r, most, ins), End: takeEnd(r)}
	})
}

// takeIns: an instruction, of code too: what a function may not have, ir.Check tells.
func takeIns(r *leb.Reader) api.Ins {
	field := fieldsOf(r)
	i := api.Ins{Kind: api.Kind(r.Below(mostKind + 1))}
	switch i.Kind {
	case api.KConst:
		i.D, i.N = field(), r.Int()
	case api.KMove, api.KLoad, api.KSpill, api.KFill:
		i.D, i.A = field(), field()
	case api.KBin:
		i.Op = api.Op(r.Below(mostKind + 1))
		i.D, i.A, i.B = field(), field(), field()
	case api.KStore:
		i.A, i.B = field(), field()
	case api.KCall:
		i.D, i.N = field(), r.Int()
		i.Args = takeList(r, api.MaxArgs, field)
	default:
		r.Fail(api.ErrKind)
	}
	return i
}

// takeEnd: an end.
func takeEnd(r *leb.Reader) api.End {
	field := fieldsOf(r)
	e := api.End{Kind: api.EndKind(r.Below(mostKind + 1))}
	switch e.Kind {
	case api.EJump:
		e.To = field()
	case api.EBranch:
		e.A, e.To, e.Else = field(), field(), field()
	case api.EReturn:
		e.A = field()
	default:
		r.Fail(api.ErrKind)
	}
	return e
}
