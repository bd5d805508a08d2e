package exec_test

import (
	"math"
	"reflect"
	"slices"
	"testing"

	"outworker/api"
	"outworker/exec"
)

// refuses: Exec answers that error, and nothing beside it.
func refuses(t *testing.T, c api.Code, in api.Input, right api.Errno, why string) {
	t.Helper()
	out, e := exec.Exec(c, in)
	if e != right {
		t.Errorf("P7.1: %s: error %d, not %d", why, e, right)
	}
	if !reflect.DeepEqual(out, api.Output{}) {
		t.Errorf("R3: %s: beside error %d: %v", why, e, out)
	}
}

// wrong is code that has a fault, and which it is.
type wrong struct {
	why  string
	code api.Code
}

// wrongs: code with one fault each, of one parameter, if that isn't the fault.
func wrongs() []wrong {
	return []wrong{
		{"no code", api.Code{}},
		{"no blocks", api.Code{Params: 1, Regs: 3, Slots: 1}},
		{"17 blocks", api.Code{Params: 1, Regs: 3, Slots: 1, Blocks: slices.Repeat([]api.Block{{End: giving(0)}}, 17)}},
		{"Params -1", one(-1, 3, 1, giving(0))},
		{"Params 5", one(5, 3, 5, giving(0))},
		{"Regs 2", one(1, 2, 1, giving(0))},
		{"Regs 9", one(1, 9, 1, giving(0))},
		{"fewer slots than parameters", one(1, 3, 0, giving(0))},
		{"65 slots", one(1, 3, 65, giving(0))},
		{"401 instructions", one(1, 3, 1, giving(0), slices.Repeat([]api.Ins{fill(0, 0)}, 401)...)},
		{"no kind", one(1, 3, 1, giving(0), api.Ins{})},
		{"a kind beyond", one(1, 3, 1, giving(0), api.Ins{Kind: 9})},
		{"an Op beyond", one(1, 3, 1, giving(0), api.Ins{Kind: api.KBin, Op: 8})},
		{"a spill with B", one(1, 3, 1, giving(0), api.Ins{Kind: api.KSpill, B: 1})},
		{"4 Args", one(1, 3, 1, giving(0), api.Ins{Kind: api.KCall, Args: make([]int, 4)})},
		{"a register beyond", one(1, 3, 1, giving(0), api.Ins{Kind: api.KConst, D: 3})},
		{"a register below", one(1, 3, 1, giving(0), api.Ins{Kind: api.KMove, A: -1})},
		{"a slot's place as a register", one(1, 3, 1, giving(0), api.Ins{Kind: api.KMove, D: 0, A: 3})},
		{"a fill of a slot beyond", one(1, 3, 1, giving(0), fill(0, 1))},
		{"a fill of a slot below", one(1, 3, 1, giving(0), fill(0, -1))},
		{"a spill to a slot beyond", one(1, 3, 1, giving(0), spill(1, 0))},
		{"a spill to a slot below", one(1, 3, 1, giving(0), spill(-1, 0))},
		{"a return of a register beyond", one(1, 3, 1, giving(3))},
		{"no end", one(1, 3, 1, api.End{})},
		{"a jump beyond", one(1, 3, 1, api.End{Kind: api.EJump, To: 1})},
		{"a branch below", one(1, 3, 1, api.End{Kind: api.EBranch, Else: -1})},
		{"a fault where no run comes", api.Code{Params: 1, Regs: 3, Slots: 1, Blocks: []api.Block{{End: giving(0)}, {}}}},
	}
}

func TestCodeWithAFault(t *testing.T) {
	for _, w := range wrongs() {
		refuses(t, w.code, api.Input{Args: []int64{5}, Fuel: 9}, api.ErrShape, w.why)
		// R2: code's fault comes ahead of the input's.
		refuses(t, w.code, api.Input{Args: make([]int64, 7), Fuel: 9}, api.ErrShape, w.why+", and 7 Args")
		refuses(t, w.code, api.Input{Args: []int64{5}, Fuel: -1}, api.ErrShape, w.why+", and Fuel -1")
	}
}

func TestFunctionsAreNotCode(t *testing.T) {
	// What only a function may have: fewer than 3 registers, and parameters without slots.
	refuses(t, one(0, 1, 0, giving(0)), api.Input{Fuel: 9}, api.ErrShape, "one register")
	refuses(t, one(2, 4, 0, giving(0)), api.Input{Args: []int64{1, 2}, Fuel: 9}, api.ErrShape, "no slots")
}

func TestInputsWithAFault(t *testing.T) {
	for params := range 5 {
		c := one(params, 3, params, giving(0))
		for args := range 7 {
			in := api.Input{Args: make([]int64, args), Fuel: 9}
			if args == params {
				if out := want(t, c, in); out.How != api.Returned {
					t.Errorf("P7.1: %d parameters, as many Args: %v", params, out)
				}
				continue
			}
			refuses(t, c, in, api.ErrArgs, "not as many Args as parameters")
			in.Fuel = -1
			refuses(t, c, in, api.ErrArgs, "not as many Args as parameters, and Fuel -1")
		}
		for _, fuel := range []int{-1, api.MaxFuel + 1, math.MinInt, math.MaxInt} {
			refuses(t, c, api.Input{Args: make([]int64, params), Fuel: fuel}, api.ErrRange, "fuel out of its range")
		}
	}
}

func TestSlotsThatAreNoParametersTakeNoArgs(t *testing.T) {
	refuses(t, one(1, 3, 4, giving(0), fill(0, 1)), api.Input{Args: []int64{1, 2, 3, 4}, Fuel: 9}, api.ErrArgs, "Args for all slots")
}

func TestTheGreatest(t *testing.T) {
	// Each limit at its greatest is allowed.
	c := api.Code{Params: 4, Regs: 8, Slots: 64}
	for n := range 16 {
		b := api.Block{End: api.End{Kind: api.EJump, To: n + 1}}
		for at := range 400 {
			b.Ins = append(b.Ins, fill(at%8, (at+1)%4), spill(at%64, at%8))
		}
		b.Ins = b.Ins[:400]
		c.Blocks = append(c.Blocks, b)
	}
	c.Blocks[15].End = giving(7)
	if out := want(t, c, api.Input{Args: []int64{9, 9, 9, 9}, Mem: make([]int64, 90), Answers: make([]int64, 90), Fuel: api.MaxFuel}); !reflect.DeepEqual(out, api.Output{How: api.Returned, Value: 9, Left: api.MaxFuel - 16}) {
		t.Errorf("P7.1: the greatest code: %v", out)
	}
}
