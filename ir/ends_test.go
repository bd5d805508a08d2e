package ir_test

import (
	"math"
	"testing"

	"outworker/api"
	"outworker/ir"
)

// ends: Ends answers this.
func ends(t *testing.T, e api.End, vregs, blocks int, want api.Errno) {
	t.Helper()
	if got := ir.Ends(e, vregs, blocks); got != want {
		t.Errorf("P4.2: Ends of %+v with %d vregs, %d blocks: %d, want %d", e, vregs, blocks, got, want)
	}
}

func TestEndsRight(t *testing.T) {
	for n := range 16 {
		ends(t, api.End{Kind: api.EJump, To: n}, 0, 16, api.OK)
		ends(t, api.End{Kind: api.EJump, To: n}, 0, n+1, api.OK)
		ends(t, api.End{Kind: api.EBranch, A: n, To: n, Else: 15 - n}, n+1, 16, api.OK)
		ends(t, api.End{Kind: api.EBranch, To: n, Else: n}, 1, n+1, api.OK)
		ends(t, api.End{Kind: api.EReturn, A: n}, n+1, 1, api.OK)
	}
	ends(t, api.End{Kind: api.EReturn, A: 31}, 32, 1, api.OK)
	// A return goes to no block, a jump takes no vreg: of neither need there be one.
	ends(t, api.End{Kind: api.EReturn}, 1, 0, api.OK)
	ends(t, api.End{Kind: api.EJump}, 0, 1, api.OK)
	ends(t, api.End{Kind: api.EJump}, -1, 1, api.OK)
}

func TestEndsOfOtherKinds(t *testing.T) {
	for kind := range 256 {
		if kind >= 1 && kind <= 3 {
			continue
		}
		ends(t, api.End{Kind: api.EndKind(kind)}, 32, 16, api.ErrKind)
		ends(t, api.End{Kind: api.EndKind(kind), A: -1, To: -1, Else: -1}, 32, 16, api.ErrKind)
	}
}

func TestEndsOfFieldsThatShouldBeZero(t *testing.T) {
	for _, n := range []int{math.MinInt, -1, 1, 2, 15, math.MaxInt} {
		ends(t, api.End{Kind: api.EJump, A: n}, 32, 16, api.ErrKind)
		ends(t, api.End{Kind: api.EJump, Else: n}, 32, 16, api.ErrKind)
		ends(t, api.End{Kind: api.EReturn, To: n}, 32, 16, api.ErrKind)
		ends(t, api.End{Kind: api.EReturn, Else: n}, 32, 16, api.ErrKind)
	}
}

func TestEndsOfNoVregs(t *testing.T) {
	for _, n := range []int{math.MinInt, -1, 2, 3, 32, math.MaxInt} {
		ends(t, api.End{Kind: api.EBranch, A: n}, 2, 1, api.ErrVreg)
		ends(t, api.End{Kind: api.EReturn, A: n}, 2, 1, api.ErrVreg)
	}
	for _, vregs := range []int{0, -1, math.MinInt} {
		ends(t, api.End{Kind: api.EBranch}, vregs, 1, api.ErrVreg)
		ends(t, api.End{Kind: api.EReturn}, vregs, 1, api.ErrVreg)
	}
}

func TestEndsOfNoBlocks(t *testing.T) {
	for _, n := range []int{math.MinInt, -1, 2, 3, 16, math.MaxInt} {
		ends(t, api.End{Kind: api.EJump, To: n}, 1, 2, api.ErrBlock)
		ends(t, api.End{Kind: api.EBranch, To: n}, 1, 2, api.ErrBlock)
		ends(t, api.End{Kind: api.EBranch, Else: n}, 1, 2, api.ErrBlock)
		ends(t, api.End{Kind: api.EBranch, To: n, Else: n}, 1, 2, api.ErrBlock)
	}
	for _, blocks := range []int{0, -1, math.MinInt} {
		ends(t, api.End{Kind: api.EJump}, 1, blocks, api.ErrBlock)
		ends(t, api.End{Kind: api.EBranch}, 1, blocks, api.ErrBlock)
	}
}

func TestEndsTellsTheFirstFault(t *testing.T) {
	ends(t, api.End{Kind: api.EJump, A: 9, To: 9}, 1, 1, api.ErrKind)
	ends(t, api.End{Kind: api.EJump, To: 9, Else: 9}, 1, 1, api.ErrKind)
	ends(t, api.End{Kind: api.EReturn, A: 9, To: 9}, 1, 1, api.ErrKind)
	ends(t, api.End{Kind: api.EReturn, A: 9, Else: 9}, 1, 1, api.ErrKind)
	ends(t, api.End{Kind: api.EBranch, A: 9, To: 9, Else: 9}, 1, 1, api.ErrVreg)
}
