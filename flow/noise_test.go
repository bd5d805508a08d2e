package flow_test

import (
	"math/rand"
	"slices"
	"testing"

	"outworker/flow"
)

// task is a problem whose facts are 8 things, each a bit: of each block which ones are there at first, which ones come in it, and which ones go.
type task struct {
	from              [][]int
	first, come, goes []uint8
}

func anyTask(r *rand.Rand) task {
	n := 1 + r.Intn(12)
	k := task{make([][]int, n), make([]uint8, n), make([]uint8, n), make([]uint8, n)}
	for b := range n {
		for range r.Intn(4) {
			k.from[b] = append(k.from[b], r.Intn(n))
		}
		k.first[b] = uint8(r.Intn(256) & r.Intn(256) & r.Intn(256))
		k.come[b] = uint8(r.Intn(256) & r.Intn(256) & r.Intn(256))
		k.goes[b] = uint8(r.Intn(256) & r.Intn(256))
	}
	return k
}

func (k task) pass(b int, at uint8) uint8 { return at&^k.goes[b] | k.come[b] }

func more(into *uint8, from uint8) bool {
	was := *into
	*into |= from
	return *into != was
}

func less(into *uint8, from uint8) bool {
	was := *into
	*into &= from
	return *into != was
}

// problem: the task as Solve wants it.
func (k task) problem(join func(*uint8, uint8) bool) flow.Problem[uint8] {
	return flow.Problem[uint8]{Blocks: len(k.first), From: each(k.from...), First: each(k.first...), Join: join, Pass: k.pass}
}

// byWords: the chapter's words once more, the next way picked by chance, till none changes anything.
func byWords(r *rand.Rand, k task, join func(*uint8, uint8) bool) []uint8 {
	type way struct{ a, b int }
	var ways []way
	for b, l := range k.from {
		for _, a := range l {
			ways = append(ways, way{a, b})
		}
	}
	facts := slices.Clone(k.first)
	for again := true; again; {
		again = false
		r.Shuffle(len(ways), func(i, j int) { ways[i], ways[j] = ways[j], ways[i] })
		for _, w := range ways {
			if join(&facts[w.b], k.pass(w.a, facts[w.a])) {
				again = true
				break
			}
		}
	}
	return facts
}

// comes: is a thing at a block, when facts grow: is there a way back to where it is at first, or comes, on which it doesn't go?
func (k task) comes(b int, bit uint8) bool {
	seen := make([]bool, len(k.first))
	var back func(b int) bool
	back = func(b int) bool {
		if k.first[b]&bit != 0 {
			return true
		}
		if seen[b] {
			return false
		}
		seen[b] = true
		for _, a := range k.from[b] {
			if k.come[a]&bit != 0 || k.goes[a]&bit == 0 && back(a) {
				return true
			}
		}
		return false
	}
	return back(b)
}

func TestAgainstWords(t *testing.T) {
	r := rand.New(rand.NewSource(11))
	for range 20000 {
		k := anyTask(r)
		got := flow.Solve(k.problem(more))
		if want := byWords(r, k, more); !slices.Equal(got, want) {
			t.Fatalf("P11.1: %v, joined to more: %v, want %v", k, got, want)
		}
		for b := range got {
			for i := range 8 {
				if bit := uint8(1) << i; got[b]&bit != 0 != k.comes(b, bit) {
					t.Fatalf("P11.1: %v: block %d, thing %d: %v", k, b, i, got)
				}
			}
		}
		for b := range k.first {
			k.first[b] = ^k.first[b]
		}
		got = flow.Solve(k.problem(less))
		if want := byWords(r, k, less); !slices.Equal(got, want) {
			t.Fatalf("P11.1: %v, joined to less: %v, want %v", k, got, want)
		}
	}
}

// The same task with its blocks named otherwise has the same facts.
func TestOrderIsNothing(t *testing.T) {
	r := rand.New(rand.NewSource(111))
	for range 3000 {
		k := anyTask(r)
		n := len(k.first)
		name := r.Perm(n)
		o := task{make([][]int, n), make([]uint8, n), make([]uint8, n), make([]uint8, n)}
		for b, to := range name {
			o.first[to], o.come[to], o.goes[to] = k.first[b], k.come[b], k.goes[b]
			for _, a := range k.from[b] {
				o.from[to] = append(o.from[to], name[a])
			}
			r.Shuffle(len(o.from[to]), func(i, j int) { l := o.from[to]; l[i], l[j] = l[j], l[i] })
		}
		one, two := flow.Solve(k.problem(more)), flow.Solve(o.problem(more))
		for b, to := range name {
			if one[b] != two[to] {
				t.Fatalf("P11.1: %v: %v; its blocks named %v: %v", k, one, name, two)
			}
		}
	}
}
