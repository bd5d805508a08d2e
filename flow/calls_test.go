package flow_test

import (
	"slices"
	"testing"

	"outworker/flow"
)

// What functions are handed: blocks of the problem, and facts of theirs.
func TestWhatFunctionsAreHanded(t *testing.T) {
	type fact struct{ block, n int }
	firsts := make([]int, 4)
	from := [][]int{{3}, {0}, {1, 0}, {2}}
	flow.Solve(flow.Problem[fact]{
		Blocks: 4,
		From: func(b int) []int {
			if b < 0 || b >= 4 {
				t.Errorf("P11.1: From of %d", b)
				return nil
			}
			return from[b]
		},
		First: func(b int) fact {
			if b < 0 || b >= 4 {
				t.Errorf("P11.1: First of %d", b)
				return fact{}
			}
			firsts[b]++
			return fact{b, 1 - min(b, 1)}
		},
		Join: func(into *fact, from2 fact) bool {
			if !slices.Contains(from[into.block], from2.block) {
				t.Errorf("P11.1: of %d was joined into %d", from2.block, into.block)
			}
			return greater(&into.n, from2.n)
		},
		Pass: func(b int, at fact) fact {
			if b != at.block {
				t.Errorf("P11.1: Pass of %d got what %d has", b, at.block)
			}
			return fact{b, min(at.n+1, 9)}
		},
	})
	if !slices.Equal(firsts, []int{1, 1, 1, 1}) {
		t.Errorf("P11.1: calls of First: %v, want one each", firsts)
	}
}

// Every way is asked at least once, and nothing else is.
func TestEachWayIsAsked(t *testing.T) {
	type way struct{ a, b int }
	asked := map[way]bool{}
	flow.Solve(flow.Problem[int]{
		Blocks: 3,
		From:   each([]int{1}, []int{1, 2}, []int(nil)),
		First:  func(b int) int { return b },
		Join: func(into *int, from int) bool {
			asked[way{from, *into}] = true
			return false
		},
		Pass: as[int],
	})
	if len(asked) != 3 || !asked[way{1, 0}] || !asked[way{1, 1}] || !asked[way{2, 1}] {
		t.Errorf("P11.1: asked: %v", asked)
	}
}

// From may answer the same memory each time, written over.
func TestFromWritesOver(t *testing.T) {
	buffer := make([]int, 1)
	got := flow.Solve(flow.Problem[int]{
		Blocks: 4,
		From: func(b int) []int {
			if b == 0 {
				return nil
			}
			buffer[0] = b - 1
			return buffer
		},
		First: each(1, 0, 0, 0),
		Join:  greater,
		Pass:  func(b, at int) int { return at + 1 },
	})
	if !slices.Equal(got, []int{1, 2, 3, 4}) {
		t.Errorf("P11.1: %v", got)
	}
}

// What From answers isn't changed, spare room included.
func TestFromIsLeftAsItIs(t *testing.T) {
	memory := []int{0, 2, 77, 78}
	got := flow.Solve(flow.Problem[int]{
		Blocks: 3,
		From: func(b int) []int {
			if b == 1 {
				return memory[:2]
			}
			return memory[:1]
		},
		First: each(0, 0, 5),
		Join:  greater,
		Pass:  as[int],
	})
	if !slices.Equal(got, []int{0, 5, 5}) || !slices.Equal(memory, []int{0, 2, 77, 78}) {
		t.Errorf("R6: %v; From's list: %v", got, memory)
	}
}

// An answer is new memory, and nothing is kept.
func TestAnswersShareNothing(t *testing.T) {
	p := flow.Problem[int]{
		Blocks: 3,
		From:   each([]int(nil), []int{0}, []int{1}),
		First:  each(1, 0, 0),
		Join:   greater,
		Pass:   func(b, at int) int { return at + 1 },
	}
	one := flow.Solve(p)
	clear(one)
	_ = append(one[:0], 9, 9, 9, 9)
	if two := flow.Solve(p); !slices.Equal(two, []int{1, 2, 3}) {
		t.Errorf("R6, R8: %v", two)
	}
}

// Of blocks that aren't, and of functions that aren't, only P1 holds: no panic, and an end.
func TestNoPanic(t *testing.T) {
	whole := flow.Problem[int]{
		Blocks: 2,
		From:   func(b int) []int { return []int{-1, 2, 1 << 62, -1 << 63, 0} },
		First:  each(3, 1),
		Join:   greater,
		Pass:   as[int],
	}
	if got := flow.Solve(whole); !slices.Equal(got, []int{3, 3}) {
		t.Errorf("P1: blocks that aren't: %v", got)
	}
	for i := range 5 {
		p := whole
		switch i {
		case 0:
			p.From = nil
		case 1:
			p.First = nil
		case 2:
			p.Join = nil
		case 3:
			p.Pass = nil
		case 4:
			p = flow.Problem[int]{Blocks: 2}
		}
		flow.Solve(p)
	}
	flow.Solve(flow.Problem[any]{})
}
