package paths_test

import (
	"math/rand"
	"slices"
	"testing"

	"outworker/api"
	"outworker/paths"
)

// anyBlocks: some, with ends of all kinds.
func anyBlocks(r *rand.Rand) []api.Block {
	l := make([]api.Block, 1+r.Intn(api.MaxBlocks))
	for b := range l {
		switch to, other := r.Intn(len(l)), r.Intn(len(l)); r.Intn(5) {
		case 0:
			l[b].End = back()
		case 1, 2:
			l[b].End = jump(to)
		default:
			l[b].End = branch(to, other)
		}
	}
	return l
}

// follows: does block n follow block b? By the chapter's words once more.
func follows(l []api.Block, b, n int) bool {
	e := l[b].End
	return e.Kind == api.EJump && e.To == n || e.Kind == api.EBranch && (e.To == n || e.Else == n)
}

// plainReach: block 0, and what follows such, till nothing more does.
func plainReach(l []api.Block) []int {
	in := make([]bool, len(l))
	in[0] = true
	for range l {
		for b := range l {
			for n := range l {
				in[n] = in[n] || in[b] && follows(l, b, n)
			}
		}
	}
	var all []int
	for b, is := range in {
		if is {
			all = append(all, b)
		}
	}
	return all
}

// plainOrder: going down without a call in a call: the way down is a list, and each block knows how many of its two ways were tried.
func plainOrder(l []api.Block) []int {
	tried := make([]int, len(l))
	seen := make([]bool, len(l))
	seen[0] = true
	way, row := []int{0}, []int{}
	for len(way) > 0 {
		b := way[len(way)-1]
		e := l[b].End
		ways := [][]int{1: {e.To}, 2: {e.To, e.Else}, 3: {}}[e.Kind]
		if tried[b] == len(ways) {
			row = append([]int{b}, row...)
			way = way[:len(way)-1]
			continue
		}
		n := ways[tried[b]]
		tried[b]++
		if !seen[n] {
			seen[n] = true
			way = append(way, n)
		}
	}
	return row
}

func TestAgainstWords(t *testing.T) {
	r := rand.New(rand.NewSource(10))
	for range 20000 {
		l := anyBlocks(r)
		ahead := paths.Ahead(l)
		if len(ahead) != len(l) {
			t.Fatalf("P10.1: of %d blocks, Ahead has %d lists", len(l), len(ahead))
		}
		for n := range l {
			var want []int
			for b := range l {
				if follows(l, b, n) {
					want = append(want, b)
				}
			}
			if !slices.Equal(ahead[n], want) {
				t.Fatalf("P10.1: %v: Ahead of %d: %v, want %v", l, n, ahead[n], want)
			}
		}
		reach := paths.Reach(l)
		if want := plainReach(l); !slices.Equal(reach.All(), want) {
			t.Fatalf("P10.1: %v: Reach = %v, want %v", l, reach.All(), want)
		}
		if got, want := paths.Order(l), plainOrder(l); !slices.Equal(got, want) {
			t.Fatalf("P10.2: %v: Order = %v, want %v", l, got, want)
		}
	}
}

// comesBack: is there a way from a block to another one?
func comesBack(l []api.Block, from, to int) bool {
	turned := slices.Clone(l)
	turned[0], turned[from] = turned[from], turned[0]
	name := func(b int) int {
		switch b {
		case 0:
			return from
		case from:
			return 0
		}
		return b
	}
	for b := range turned {
		turned[b].End.To, turned[b].End.Else = name(turned[b].End.To), name(turned[b].End.Else)
	}
	return slices.Contains(plainReach(turned), name(to))
}

func TestFollowersStandBehind(t *testing.T) {
	r := rand.New(rand.NewSource(102))
	for range 3000 {
		l := anyBlocks(r)
		order := paths.Order(l)
		for at, b := range order {
			for was, n := range order[:at+1] {
				if follows(l, b, n) && !comesBack(l, n, b) {
					t.Fatalf("P10.2: %v: %d follows %d, and stands at %d, not behind %d", l, n, b, was, at)
				}
			}
		}
	}
}
