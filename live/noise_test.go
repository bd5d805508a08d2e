package live_test

import (
	"math/rand"
	"slices"
	"testing"

	"outworker/api"
	"outworker/bag"
	"outworker/live"
)

// anyIns: of any kind, over few vregs, so that they meet; its slots have the vregs' numbers.
func anyIns(r *rand.Rand, vregs int) api.Ins {
	v := func() int { return r.Intn(vregs) }
	switch r.Intn(9) {
	case 0:
		return constant(v())
	case 1:
		return move(v(), v())
	case 2, 3:
		return add(v(), v(), v())
	case 4:
		return load(v(), v())
	case 5:
		return store(v(), v())
	case 6:
		var l []int
		for range r.Intn(api.MaxArgs + 1) {
			l = append(l, v())
		}
		return call(v(), l...)
	case 7:
		return spill(v(), v())
	}
	return fill(v(), v())
}

// anyBlocks: some, with instructions and ends of all kinds.
func anyBlocks(r *rand.Rand, vregs int) []api.Block {
	l := make([]api.Block, 1+r.Intn(9))
	most := r.Intn(6)
	for b := range l {
		for range r.Intn(most + 1) {
			l[b].Ins = append(l[b].Ins, anyIns(r, vregs))
		}
		switch to, other := r.Intn(len(l)), r.Intn(len(l)); r.Intn(7) {
		case 0:
			l[b].End = back(r.Intn(vregs))
		case 1, 2, 3:
			l[b].End = jump(to)
		default:
			l[b].End = branch(r.Intn(vregs), to, other)
		}
	}
	return l
}

// takes, gives: chapter 4's table once more.
func takes(i api.Ins, v int) bool {
	switch i.Kind {
	case api.KMove, api.KLoad, api.KSpill:
		return i.A == v
	case api.KBin, api.KStore:
		return i.A == v || i.B == v
	}
	return i.Kind == api.KCall && slices.Contains(i.Args, v)
}

func gives(i api.Ins, v int) bool {
	return i.Kind != api.KStore && i.Kind != api.KSpill && i.D == v
}

// spot is a place of a block: ahead of an instruction; ahead of the end, if there are as many instructions; one more: behind it.
type spot struct{ block, at int }

// onward: is a vreg taken from a spot on? If not, where do ways go on from there on which it isn't given?
func onward(l []api.Block, s spot, v int) (bool, []spot) {
	b := l[s.block]
	if s.at < len(b.Ins) {
		i := b.Ins[s.at]
		if takes(i, v) {
			return true, nil
		}
		if gives(i, v) {
			return false, nil
		}
		return false, []spot{{s.block, s.at + 1}}
	}
	if s.at == len(b.Ins) {
		return b.End.Kind != api.EJump && b.End.A == v, []spot{{s.block, s.at + 1}}
	}
	switch b.End.Kind {
	case api.EJump:
		return false, []spot{{b.End.To, 0}}
	case api.EBranch:
		return false, []spot{{b.End.To, 0}, {b.End.Else, 0}}
	}
	return false, nil
}

// needed: is there a way from a spot to one that takes a vreg? All ways are gone, each spot once.
func needed(l []api.Block, from spot, v int) bool {
	been := map[spot]struct{}{from: {}}
	open := []spot{from}
	for len(open) > 0 {
		s := open[0]
		open = open[1:]
		taken, next := onward(l, s, v)
		if taken {
			return true
		}
		for _, n := range next {
			if _, ok := been[n]; !ok {
				been[n] = struct{}{}
				open = append(open, n)
			}
		}
	}
	return false
}

// allNeeded: what is needed at a spot, rising.
func allNeeded(l []api.Block, s spot, vregs int) []int {
	var all []int
	for v := range vregs {
		if needed(l, s, v) {
			all = append(all, v)
		}
	}
	return all
}

func TestAgainstWords(t *testing.T) {
	r := rand.New(rand.NewSource(12))
	for range 6000 {
		vregs := 1 + r.Intn(8)
		l := anyBlocks(r, vregs)
		in, out := live.Of(l)
		if len(in) != len(l) || len(out) != len(l) {
			t.Fatalf("P12.1: of %d blocks: %d and %d sets", len(l), len(in), len(out))
		}
		for b := range l {
			if want := allNeeded(l, spot{b, 0}, vregs); !slices.Equal(in[b].All(), want) {
				t.Fatalf("P12.1: %v: at the beginning of %d: %v, want %v", l, b, in[b].All(), want)
			}
			end := len(l[b].Ins)
			if want := allNeeded(l, spot{b, end + 1}, vregs); !slices.Equal(out[b].All(), want) {
				t.Fatalf("P12.1: %v: behind the end of %d: %v, want %v", l, b, out[b].All(), want)
			}
			behind := live.Behind(l[b], out[b])
			if len(behind) != end {
				t.Fatalf("P12.1: %v: Behind of %d: %d sets, want %d", l, b, len(behind), end)
			}
			for n := range behind {
				if want := allNeeded(l, spot{b, n + 1}, vregs); !slices.Equal(behind[n].All(), want) {
					t.Fatalf("P12.1: %v: Behind of %d: at %d: %v, want %v", l, b, n, behind[n].All(), want)
				}
			}
		}
	}
}

func TestBehindOfAnyOut(t *testing.T) {
	r := rand.New(rand.NewSource(121))
	for range 3000 {
		const vregs = 10
		b := anyBlocks(r, 1+r.Intn(vregs))[0]
		b.End.To, b.End.Else = 1, 1
		if b.End.Kind == api.EReturn {
			b.End.Kind = api.EBranch
		}
		// A block that takes just what is in out, and gives nothing, stands for all that is behind.
		var out bag.Set[int]
		follower := of(jump(1))
		for v := range vregs {
			if r.Intn(3) == 0 {
				out.Put(v)
				follower.Ins = append(follower.Ins, spill(v, v))
			}
		}
		for n, got := range live.Behind(b, out) {
			if want := allNeeded([]api.Block{b, follower}, spot{0, n + 1}, vregs); !slices.Equal(got.All(), want) {
				t.Fatalf("P12.1: %v, %v: Behind at %d: %v, want %v", b, out.All(), n, got.All(), want)
			}
		}
	}
}

func TestAlwaysTheSame(t *testing.T) {
	r := rand.New(rand.NewSource(122))
	for range 300 {
		l := anyBlocks(r, 6)
		in, out := live.Of(l)
		live.Of(anyBlocks(r, 6))
		again, behind := live.Of(l)
		if !slices.Equal(in, again) || !slices.Equal(out, behind) {
			t.Fatalf("R8: %v: another answer the second time", l)
		}
	}
}

func TestEndsMeetBeginnings(t *testing.T) {
	// What is needed behind a block's end is what is needed at the beginning of those that follow.
	r := rand.New(rand.NewSource(123))
	for range 2000 {
		l := anyBlocks(r, 8)
		in, out := live.Of(l)
		for b := range l {
			var want bag.Set[int]
			switch e := l[b].End; e.Kind {
			case api.EBranch:
				want.Join(in[e.Else])
				want.Join(in[e.To])
			case api.EJump:
				want.Join(in[e.To])
			}
			if !out[b].Same(want) {
				t.Fatalf("P12.1: %v: behind the end of %d: %v, at the beginnings behind it %v", l, b, out[b].All(), want.All())
			}
		}
	}
}
