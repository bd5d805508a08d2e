package bag_test

import (
	"maps"
	"math/rand"
	"slices"
	"testing"

	"outworker/bag"
)

// pick: a number of few, so that the same ones come again, or one near an edge, or one that may not be.
func pick(r *rand.Rand) int {
	switch r.Intn(8) {
	case 0:
		return others()[r.Intn(len(others()))]
	case 1:
		return edges()[r.Intn(len(edges()))]
	}
	return r.Intn(200)
}

// plainSet is the numbers of a set, by the chapter's words once more.
type plainSet map[int]struct{}

// put: a number, if it may be.
func (p plainSet) put(x int) bool {
	_, was := p[x]
	if x < 0 || x > highest || was {
		return false
	}
	p[x] = struct{}{}
	return true
}

// cut: a number.
func (p plainSet) cut(x int) bool {
	_, was := p[x]
	delete(p, x)
	return was
}

// sieve: those go that are in another one; or, if that is false, those that are not.
func (p plainSet) sieve(o plainSet, in bool) {
	for _, x := range slices.Collect(maps.Keys(p)) {
		if _, there := o[x]; there == in {
			delete(p, x)
		}
	}
}

// join: all of another one.
func (p plainSet) join(o plainSet) bool {
	grew := false
	for _, x := range slices.Collect(maps.Keys(o)) {
		if p.put(x) {
			grew = true
		}
	}
	return grew
}

func TestSetsAgainstWords(t *testing.T) {
	r := rand.New(rand.NewSource(9))
	const many = 4
	var sets [many]bag.Set[int]
	plain := [many]plainSet{{}, {}, {}, {}}
	for step := range 20000 {
		a, b, x := r.Intn(many), r.Intn(many), pick(r)
		got, want := true, true
		switch n := r.Intn(40); {
		case n < 18:
			got, want = sets[a].Put(x), plain[a].put(x)
		case n < 30:
			got, want = sets[a].Cut(x), plain[a].cut(x)
		case n < 33:
			got, want = sets[a].Join(sets[b]), plain[a].join(plain[b])
		case n < 35:
			sets[a].Less(sets[b])
			plain[a].sieve(plain[b], true)
		case n < 37:
			sets[a].Meet(sets[b])
			plain[a].sieve(plain[b], false)
		case n < 39:
			got, want = sets[a].Same(sets[b]), maps.Equal(plain[a], plain[b])
		default:
			sets[a], plain[a] = sets[b].Copy(), maps.Clone(plain[b])
		}
		if got != want {
			t.Fatalf("P9.1: step %d: %v, want %v", step, got, want)
		}
		for s := range sets {
			_, in := plain[s][x]
			if all := slices.Sorted(maps.Keys(plain[s])); !slices.Equal(sets[s].All(), all) || sets[s].Len() != len(all) || sets[s].Has(x) != in {
				t.Fatalf("P9.1: step %d: %v, want %v", step, sets[s].All(), all)
			}
		}
	}
}

func TestQueueAgainstWords(t *testing.T) {
	r := rand.New(rand.NewSource(9))
	var q bag.Queue[int]
	var plain []int
	for step := range 100000 {
		// Now it rather grows, now it rather shrinks.
		if r.Intn(9) < 3+step/1000%4 {
			x := r.Intn(100)
			want := !slices.Contains(plain, x)
			if want {
				plain = append(plain, x)
			}
			if q.Put(x) != want {
				t.Fatalf("P9.2: step %d: Put(%d): %v", step, x, !want)
			}
		} else {
			x, ok := q.Take()
			if ok != (len(plain) > 0) || ok && x != plain[0] || !ok && x != 0 {
				t.Fatalf("P9.2: step %d: Take: %d, %v, of %v", step, x, ok, plain)
			}
			if ok {
				plain = plain[1:]
			}
		}
		if q.Len() != len(plain) {
			t.Fatalf("P9.2: step %d: Len %d, want %d", step, q.Len(), len(plain))
		}
	}
}

func TestTableAgainstWords(t *testing.T) {
	r := rand.New(rand.NewSource(9))
	var u bag.Table[int, int]
	var keys, values []int // side by side, the keys rising
	for step := range 50000 {
		k := r.Intn(60) - 30
		at, had := slices.BinarySearch(keys, k)
		switch r.Intn(3) {
		case 0:
			if had {
				values[at] = step
			} else {
				keys, values = slices.Insert(keys, at, k), slices.Insert(values, at, step)
			}
			if u.Put(k, step) == had {
				t.Fatalf("P9.3: step %d: Put(%d): %v", step, k, had)
			}
		case 1:
			if had {
				keys, values = slices.Delete(keys, at, at+1), slices.Delete(values, at, at+1)
			}
			if u.Cut(k) != had {
				t.Fatalf("P9.3: step %d: Cut(%d): %v", step, k, !had)
			}
		default:
			want := 0
			if had {
				want = values[at]
			}
			if v, ok := u.Get(k); ok != had || v != want {
				t.Fatalf("P9.3: step %d: Get(%d): %d, %v, want %d", step, k, v, ok, want)
			}
		}
		if !slices.Equal(u.Keys(), keys) {
			t.Fatalf("P9.3: step %d: Keys: %v, want %v", step, u.Keys(), keys)
		}
	}
}
