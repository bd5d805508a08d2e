package bag_test

import (
	"math"
	"runtime"
	"testing"
	"weak"

	"outworker/bag"
)

// expectTakes: a queue has these, in this order, and none behind them.
func expectTakes[T comparable](t *testing.T, what string, q *bag.Queue[T], want ...T) {
	t.Helper()
	for at, x := range want {
		if q.Len() != len(want)-at {
			t.Errorf("%s: Len: %d, want %d", what, q.Len(), len(want)-at)
		}
		if got, ok := q.Take(); !ok || got != x {
			t.Errorf("%s: Take: %v, %v, want %v", what, got, ok, x)
		}
	}
	expectNone(t, what, q)
}

// expectNone: nothing is in a queue.
func expectNone[T comparable](t *testing.T, what string, q *bag.Queue[T]) {
	t.Helper()
	var none T
	if q.Len() != 0 {
		t.Errorf("%s: Len: %d, want 0", what, q.Len())
	}
	if got, ok := q.Take(); ok || got != none {
		t.Errorf("%s: Take of nothing: %v, %v", what, got, ok)
	}
	if q.Len() != 0 {
		t.Errorf("%s: Len behind a Take of nothing: %d", what, q.Len())
	}
}

// putAll: things that are not there yet.
func putAll[T comparable](t *testing.T, what string, q *bag.Queue[T], l ...T) {
	t.Helper()
	for _, x := range l {
		if !q.Put(x) {
			t.Errorf("%s: Put(%v): it is there", what, x)
		}
	}
}

func TestQueueIsEmptyAtFirst(t *testing.T) {
	var q bag.Queue[string]
	expectNone(t, "P9.2: the zero value", &q)
	expectNone(t, "P9.2: the zero value, once more", &q)
	putAll(t, "P9.2: behind Takes of nothing", &q, "a")
	expectTakes(t, "P9.2: behind Takes of nothing", &q, "a")
}

func TestQueueKeepsTheOrder(t *testing.T) {
	var q bag.Queue[int]
	putAll(t, "P9.2", &q, 5, 0, -3, math.MaxInt, 4)
	expectTakes(t, "P9.2: the first one goes first", &q, 5, 0, -3, math.MaxInt, 4)
	putAll(t, "P9.2: the same once more", &q, 4, math.MaxInt, -3, 0, 5)
	expectTakes(t, "P9.2: the same once more", &q, 4, math.MaxInt, -3, 0, 5)
}

func TestQueueHasEachOnce(t *testing.T) {
	var q bag.Queue[string]
	putAll(t, "P9.2", &q, "a", "", "b")
	for _, x := range []string{"a", "", "b", "b", "", "a"} {
		if q.Put(x) || q.Len() != 3 {
			t.Errorf("P9.2: Put(%q) of what is there: Len %d", x, q.Len())
		}
	}
	if x, ok := q.Take(); !ok || x != "a" {
		t.Errorf("P9.2: Take: %q, %v", x, ok)
	}
	if q.Put("b") || q.Put("") || !q.Put("a") || q.Put("a") {
		t.Error("P9.2: what was taken may be put behind all, what wasn't may not")
	}
	expectTakes(t, "P9.2: a refused Put moves nothing", &q, "", "b", "a")
}

func TestQueueThatGoesOn(t *testing.T) {
	var q bag.Queue[int]
	putAll(t, "P9.2", &q, 0, 1, 2)
	for x := range 10000 {
		if got, ok := q.Take(); !ok || got != x {
			t.Fatalf("P9.2: Take: %d, %v, want %d", got, ok, x)
		}
		if q.Put(x+1) || q.Put(x+2) || !q.Put(x+3) || q.Len() != 3 {
			t.Fatalf("P9.2: Put around %d", x)
		}
	}
	for x := 10003; x < 20000; x++ {
		putAll(t, "P9.2: many", &q, x)
	}
	if q.Len() != 10000 || q.Put(15000) {
		t.Errorf("P9.2: many: Len %d", q.Len())
	}
	for x := 10000; x < 20000; x++ {
		if got, ok := q.Take(); !ok || got != x {
			t.Fatalf("P9.2: Take of many: %d, %v, want %d", got, ok, x)
		}
	}
	expectNone(t, "P9.2: behind many", &q)
}

func TestQueuesOfOtherThings(t *testing.T) {
	type step struct {
		from, to int
		name     string
	}
	var s bag.Queue[step]
	putAll(t, "P9.2: structs", &s, step{1, 2, "a"}, step{}, step{2, 1, "a"}, step{1, 2, "b"})
	if s.Put(step{1, 2, "b"}) || s.Put(step{}) {
		t.Error("P9.2: structs are alike where their fields are")
	}
	expectTakes(t, "P9.2: structs", &s, step{1, 2, "a"}, step{}, step{2, 1, "a"}, step{1, 2, "b"})

	x, y := 1, 1
	var p bag.Queue[*int]
	putAll(t, "P9.2: pointers", &p, &x, nil, &y)
	if p.Put(&x) || p.Put(nil) {
		t.Error("P9.2: pointers to the same are alike")
	}
	expectTakes(t, "P9.2: pointers", &p, &x, nil, &y)

	var a bag.Queue[any]
	putAll[any](t, "P9.2: anything", &a, 1, "1", int64(1), nil, 1.0, [2]any{1, nil}, vreg(1))
	if a.Put(1) || a.Put(nil) || a.Put([2]any{1, nil}) || a.Put(vreg(1)) {
		t.Error("P9.2: anything: alike where kind and value are")
	}
	expectTakes[any](t, "P9.2: anything", &a, 1, "1", int64(1), nil, 1.0, [2]any{1, nil}, vreg(1))
}

func TestQueuesStandAlone(t *testing.T) {
	var q, o bag.Queue[int]
	putAll(t, "R8", &q, 1, 2)
	expectNone(t, "R8: another queue", &o)
	putAll(t, "R8: another queue", &o, 2, 1)
	expectTakes(t, "R8: another queue", &o, 2, 1)
	expectTakes(t, "R8", &q, 1, 2)
}

func TestQueueOfNaN(t *testing.T) {
	var q bag.Queue[float64]
	putAll(t, "P9.2: NaN is never in the queue", &q, math.NaN(), 0, math.NaN(), math.Inf(1))
	if q.Put(math.Copysign(0, -1)) || q.Put(math.Inf(1)) || q.Len() != 4 {
		t.Error("P9.2: floats that are there")
	}
	for _, want := range []float64{math.NaN(), 0, math.NaN(), math.Inf(1)} {
		if x, ok := q.Take(); !ok || x != want && !(math.IsNaN(x) && math.IsNaN(want)) {
			t.Errorf("P9.2: Take of floats: %v, %v, want %v", x, ok, want)
		}
	}
	expectNone(t, "P9.2: behind NaN", &q)

	type odd struct {
		f float64
		x any
	}
	var o bag.Queue[odd]
	putAll(t, "P9.2: a struct with NaN", &o, odd{math.NaN(), []int{1}}, odd{math.NaN(), 1}, odd{1, 1})
	for range 2 {
		if x, ok := o.Take(); !ok || !math.IsNaN(x.f) {
			t.Errorf("P9.2: Take of a struct with NaN: %v, %v", x, ok)
		}
	}
	expectTakes(t, "P9.2: behind a struct with NaN", &o, odd{1, 1})
}

func TestQueueOfWhatCantBeCompared(t *testing.T) {
	type box struct{ x any }
	var q bag.Queue[any]
	for _, front := range []any{nil, 1, "a"} {
		if front != nil {
			putAll(t, "P9.2", &q, front)
		}
		before := q.Len()
		for _, x := range []any{[]int{1}, []int(nil), map[int]int{}, func() {}, [1]any{[]int{}}, box{[]int{}}, box{box{func() {}}}} {
			if q.Put(x) || q.Len() != before {
				t.Errorf("P1: Put of %T, of which nothing can be told: Len %d, want %d", x, q.Len(), before)
			}
		}
	}
	putAll[any](t, "P1: behind what can't be compared", &q, box{1})
	if q.Put("a") || q.Put(box{1}) {
		t.Error("P9.2: what is there, behind what can't be compared")
	}
	expectTakes[any](t, "P1: behind what can't be compared", &q, 1, "a", box{1})

	var b bag.Queue[box]
	if b.Put(box{[]int{}}) || !b.Put(box{}) {
		t.Error("P1: a struct that can't be compared")
	}
	expectTakes(t, "P1: behind a struct that can't be compared", &b, box{})
}

// takeOne: two things are put, one is taken; what still points to that.
func takeOne(q *bag.Queue[*[64]int]) weak.Pointer[[64]int] {
	q.Put(new([64]int))
	q.Put(new([64]int))
	x, _ := q.Take()
	return weak.Make(x)
}

func TestQueueKeepsNothingTaken(t *testing.T) {
	var q bag.Queue[*[64]int]
	left := takeOne(&q)
	runtime.GC()
	if left.Value() != nil {
		t.Error("a queue keeps what was taken")
	}
	if q.Len() != 1 {
		t.Errorf("P9.2: Len: %d, want 1", q.Len())
	}
}
