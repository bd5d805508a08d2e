package flow_test

import (
	"slices"
	"strings"
	"testing"

	"outworker/bag"
	"outworker/flow"
)

// greater: joins numbers: the greater one.
func greater(into *int, from int) bool {
	was := *into
	*into = max(was, from)
	return *into > was
}

// lesser: joins numbers: the lesser one.
func lesser(into *int, from int) bool {
	was := *into
	*into = min(was, from)
	return *into < was
}

// as: passes what holds on as it is.
func as[F any](b int, at F) F { return at }

// each: what a list has for a block.
func each[T any](l ...T) func(b int) T { return func(b int) T { return l[b] } }

func TestNumbers(t *testing.T) {
	most := func(n int) func(b, at int) int {
		return func(b, at int) int { return min(at+1, n) }
	}
	for _, c := range []struct {
		name  string
		first []int
		from  [][]int
		join  func(into *int, from int) bool
		pass  func(b, at int) int
		want  []int
	}{
		{"the chapter's example", []int{1, 0, 0}, [][]int{nil, {0}, {1}}, greater, most(100), []int{1, 2, 3}},
		{"the example, turned round", []int{0, 0, 1}, [][]int{{1}, {2}, nil}, greater, most(100), []int{3, 2, 1}},
		{"the first facts are settled", []int{9, 10, 11}, [][]int{nil, {0}, {1}}, greater, most(100), []int{9, 10, 11}},
		{"one block", []int{7}, [][]int{nil}, greater, most(100), []int{7}},
		{"one block, from itself", []int{7}, [][]int{{0}}, greater, most(12), []int{12}},
		{"one block, from itself twice", []int{7}, [][]int{{0, 0}}, greater, most(12), []int{12}},
		{"two, from each other", []int{3, 0}, [][]int{{1}, {0}}, greater, most(9), []int{9, 9}},
		{"nothing flows", []int{3, 1, 2}, [][]int{nil, {}, nil}, greater, most(9), []int{3, 1, 2}},
		{"two ways meet", []int{1, 5, 0, 0}, [][]int{nil, nil, {0, 1}, {1, 0}}, greater, most(9), []int{1, 5, 6, 6}},
		{"a loop behind a row", []int{4, 0, 0, 0}, [][]int{nil, {0, 2}, {1}, {2}}, greater, as[int], []int{4, 4, 4, 4}},
		{"a loop that grows", []int{1, 0, 0, 0}, [][]int{nil, {0, 2}, {1}, {2}}, greater, most(50), []int{1, 50, 50, 50}},
		{"facts shrink", []int{8, 9, 9}, [][]int{nil, {0}, {1, 0}}, lesser, as[int], []int{8, 8, 8}},
		{"facts shrink in a loop", []int{8, 9, 9}, [][]int{nil, {0, 2}, {1}}, lesser, func(b, at int) int { return max(at-1, 2) }, []int{8, 2, 2}},
		{"Pass knows its block", []int{1, 1, 1}, [][]int{nil, {0}, {1}}, greater, func(b, at int) int { return 10*at + b }, []int{1, 10, 101}},
		{"facts below 0", []int{-5, -9}, [][]int{nil, {0}}, greater, as[int], []int{-5, -5}},
		{"two parts", []int{1, 0, 5, 0}, [][]int{nil, {0}, nil, {2}}, greater, most(9), []int{1, 2, 5, 6}},
	} {
		p := flow.Problem[int]{Blocks: len(c.first), From: each(c.from...), First: each(c.first...), Join: c.join, Pass: c.pass}
		got := flow.Solve(p)
		if !slices.Equal(got, c.want) {
			t.Errorf("P11.1: %s: %v, want %v", c.name, got, c.want)
		}
	}
}

func TestNoBlocks(t *testing.T) {
	called := 0
	for _, n := range []int{0, -1, -1 << 63} {
		got := flow.Solve(flow.Problem[int]{
			Blocks: n,
			From:   func(b int) []int { called++; return nil },
			First:  func(b int) int { called++; return 1 },
			Join:   func(into *int, from int) bool { called++; return false },
			Pass:   func(b, at int) int { called++; return at },
		})
		if len(got) != 0 || called != 0 {
			t.Errorf("P11.1: of %d blocks: %v, %d calls of functions", n, got, called)
		}
	}
}

// Facts of any type: the functions alone know what they are.
func TestSets(t *testing.T) {
	got := flow.Solve(flow.Problem[bag.Set[int]]{
		Blocks: 4,
		From:   each([]int(nil), []int{0, 2}, []int{1}, []int{1}),
		First:  each(bag.Of(1), bag.Of[int](), bag.Of(4095), bag.Of[int]()),
		Join:   (*bag.Set[int]).Join,
		Pass: func(b int, at bag.Set[int]) bag.Set[int] {
			at.Put(100 + b)
			return at
		},
	})
	want := []bag.Set[int]{bag.Of(1), bag.Of(1, 100, 101, 102, 4095), bag.Of(1, 100, 101, 102, 4095), bag.Of(1, 100, 101, 102, 4095)}
	if !slices.Equal(got, want) {
		t.Errorf("P11.1: sets: %v, want %v", got, want)
	}
}

func TestStructs(t *testing.T) {
	type known struct {
		come bool
		name string
	}
	got := flow.Solve(flow.Problem[known]{
		Blocks: 4,
		From:   each([]int(nil), []int{0, 1}, []int{1}, []int{3}),
		First:  each(known{true, ""}, known{}, known{}, known{}),
		Join: func(into *known, from known) bool {
			if !from.come || into.come {
				return false
			}
			*into = from
			return true
		},
		Pass: func(b int, at known) known {
			return known{at.come, at.name + strings.Repeat("x", b+1)}
		},
	})
	if want := []known{{true, ""}, {true, "x"}, {true, "xxx"}, {}}; !slices.Equal(got, want) {
		t.Errorf("P11.1: structs: %v, want %v", got, want)
	}
}

// First's answers may be changed by Join: facts may be behind pointers.
func TestFactsBehindPointers(t *testing.T) {
	first := []*int{new(int), new(int), new(int)}
	*first[0] = 1
	got := flow.Solve(flow.Problem[*int]{
		Blocks: 3,
		From:   each([]int(nil), []int{0, 2}, []int{1}),
		First:  each(first...),
		Join:   func(into **int, from *int) bool { return greater(*into, *from) },
		Pass:   func(b int, at *int) *int { n := min(*at+1, 20); return &n },
	})
	if len(got) != 3 || *got[0] != 1 || *got[1] != 20 || *got[2] != 20 {
		t.Errorf("P11.1: pointers: %v", got)
	}
}

func TestFactsAsMaps(t *testing.T) {
	got := flow.Solve(flow.Problem[map[int]int]{
		Blocks: 3,
		From:   each([]int{2}, []int{0}, []int{1}),
		First:  func(b int) map[int]int { return map[int]int{b: 1} },
		Join: func(into *map[int]int, from map[int]int) bool {
			was := len(*into)
			for k, v := range from {
				(*into)[k] = v
			}
			return len(*into) > was
		},
		Pass: as[map[int]int],
	})
	for b, m := range got {
		if len(m) != 3 {
			t.Errorf("P11.1: block %d: %v", b, m)
		}
	}
	if len(got) != 3 {
		t.Errorf("P11.1: %d facts", len(got))
	}
}

// Once isn't enough: as long as a Join changes something, there's another one.
func TestJoinTillNothingChanges(t *testing.T) {
	for _, from := range [][][]int{{nil, {0}, {1}}, {nil, {0, 1}, {1, 1}}} {
		last := map[int]bool{} // did a block's last Join change something?
		facts := flow.Solve(flow.Problem[[]int]{
			Blocks: 3,
			From:   each(from...),
			First:  func(b int) []int { return []int{b, max(1-b, 0)} },
			Join: func(into *[]int, from []int) bool {
				b, was := (*into)[0], (*into)[1]
				now := min(was+from[1], 1000) // grows a step at a time
				*into = []int{b, now}
				last[b] = now != was
				return now != was
			},
			Pass: as[[]int],
		})
		if len(facts) != 3 || facts[0][1] != 1 || facts[1][1] != 1000 || facts[2][1] != 1000 {
			t.Errorf("P11.1: %v: %v", from, facts)
		}
		for b, changed := range last {
			if changed {
				t.Errorf("P11.1: %v: the last Join of block %d changed it", from, b)
			}
		}
	}
}

// A join of one block may be asked for again by a change of that block alone.
func TestJoinThatLooksAtItsOwn(t *testing.T) {
	got := flow.Solve(flow.Problem[int]{
		Blocks: 3,
		From:   each([]int(nil), []int(nil), []int{0, 1}),
		First:  each(5, 1, 0),
		Join: func(into *int, from int) bool {
			if from == 5 && *into == 0 { // till 1 was there, 5 is not joined in
				return false
			}
			return greater(into, from)
		},
		Pass: as[int],
	})
	if !slices.Equal(got, []int{5, 1, 5}) {
		t.Errorf("P11.1: %v", got)
	}
}

// Long rows end, whichever way facts flow.
func TestLongRows(t *testing.T) {
	const n = 100000
	for _, step := range []int{-1, 1} {
		start := 0
		if step == 1 {
			start = n - 1
		}
		got := flow.Solve(flow.Problem[int]{
			Blocks: n,
			From: func(b int) []int {
				if b == start {
					return nil
				}
				return []int{b + step}
			},
			First: func(b int) int {
				if b == start {
					return 1
				}
				return 0
			},
			Join: greater,
			Pass: func(b, at int) int {
				if at == 0 {
					return 0
				}
				return at + 1
			},
		})
		if len(got) != n || got[start] != 1 || got[n-1-start] != n {
			t.Errorf("P11.1: a row of %d, step %d: %d facts, not 1 .. %d", n, step, len(got), n)
		}
	}
}
