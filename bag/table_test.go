package bag_test

import (
	"cmp"
	"math"
	"slices"
	"testing"

	"outworker/bag"
)

// expectTable: a table has just these keys (rising), with these values.
func expectTable[K cmp.Ordered, V comparable](t *testing.T, what string, u *bag.Table[K, V], keys []K, values []V) {
	t.Helper()
	if got := u.Keys(); !slices.Equal(got, keys) {
		t.Errorf("%s: Keys: %v, want %v", what, got, keys)
	}
	for at, k := range keys {
		if v, ok := u.Get(k); !ok || v != values[at] {
			t.Errorf("%s: Get(%v): %v, %v, want %v", what, k, v, ok, values[at])
		}
	}
}

// expectLacks: a table has nothing for a key, and a Cut of it changes nothing.
func expectLacks[K cmp.Ordered, V comparable](t *testing.T, what string, u *bag.Table[K, V], k K) {
	t.Helper()
	var none V
	before := u.Keys()
	if v, ok := u.Get(k); ok || v != none {
		t.Errorf("%s: Get(%v): %v, %v", what, k, v, ok)
	}
	if u.Cut(k) {
		t.Errorf("%s: Cut(%v): it had something", what, k)
	}
	if got := u.Keys(); !slices.Equal(got, before) {
		t.Errorf("%s: Keys behind a Cut of %v: %v, want %v", what, k, got, before)
	}
}

func TestTableIsEmptyAtFirst(t *testing.T) {
	var u bag.Table[string, int]
	expectTable(t, "P9.3: the zero value", &u, nil, nil)
	expectLacks(t, "P9.3: the zero value", &u, "")
	expectLacks(t, "P9.3: the zero value", &u, "k")
	if !u.Put("k", 1) {
		t.Error("P9.3: Put behind Cuts of nothing")
	}
	expectTable(t, "P9.3: Put behind Cuts of nothing", &u, []string{"k"}, []int{1})
}

func TestTablePutGetCut(t *testing.T) {
	var u bag.Table[string, int]
	if !u.Put("k", 1) || u.Put("k", 2) || !u.Put("b", 3) || !u.Put("", 0) {
		t.Error("P9.3: Put tells whether there was nothing")
	}
	expectTable(t, "P9.3: the last value stays", &u, []string{"", "b", "k"}, []int{0, 3, 2})
	expectLacks(t, "P9.3: another key", &u, "a")
	if u.Put("", 4) || u.Put("k", 2) {
		t.Error("P9.3: a key that has the zero value, or the same one, has something")
	}
	expectTable(t, "P9.3: Put of what was there", &u, []string{"", "b", "k"}, []int{4, 3, 2})
	if !u.Cut("b") || u.Cut("b") {
		t.Error("P9.3: Cut tells whether there was something")
	}
	expectLacks(t, "P9.3: behind a Cut", &u, "b")
	expectTable(t, "P9.3: behind a Cut", &u, []string{"", "k"}, []int{4, 2})
	if !u.Put("b", 0) || u.Put("b", 0) || !u.Cut("") || !u.Cut("k") || !u.Cut("b") {
		t.Error("P9.3: Put behind a Cut")
	}
	expectTable(t, "P9.3: behind all Cuts", &u, nil, nil)
	expectLacks(t, "P9.3: behind all Cuts", &u, "k")
}

func TestKeysRise(t *testing.T) {
	numbers := []int{math.MinInt, -300, -1, 0, 1, 2, 10, 300, math.MaxInt}
	words := []string{"", "\x00", "A", "Z", "a", "a\x00", "aa", "b", "z", "é", "\xff"}
	for turn := range len(words) {
		var u bag.Table[int, int]
		for at := range numbers {
			u.Put(numbers[(at*4+turn)%len(numbers)], at)
		}
		if got := u.Keys(); !slices.Equal(got, numbers) {
			t.Errorf("P9.3: Keys of numbers: %v", got)
		}
		var w bag.Table[string, int]
		for at := range words {
			w.Put(words[(at*3+turn)%len(words)], at)
		}
		if got := w.Keys(); !slices.Equal(got, words) {
			t.Errorf("P9.3: Keys of words: %q", got)
		}
	}
}

func TestKeysOfMany(t *testing.T) {
	var u bag.Table[vreg, int]
	for x := range 5000 {
		if !u.Put(vreg(x*7%5000), x) {
			t.Fatalf("P9.3: Put(%d)", x*7%5000)
		}
	}
	keys := u.Keys()
	if len(keys) != 5000 {
		t.Fatalf("P9.3: %d Keys, want 5000", len(keys))
	}
	for x, k := range keys {
		if k != vreg(x) {
			t.Fatalf("P9.3: Keys has %d at %d", k, x)
		}
		if v, ok := u.Get(k); !ok || v*7%5000 != x {
			t.Fatalf("P9.3: Get(%d): %d, %v", k, v, ok)
		}
	}
}

func TestTableOfFloats(t *testing.T) {
	minus := math.Copysign(0, -1)
	odd := []float64{math.NaN(), -math.NaN(), math.Float64frombits(math.Float64bits(math.NaN()) ^ 1)}
	var u bag.Table[float64, int]
	for _, k := range odd {
		if u.Put(k, 1) {
			t.Error("P9.3: NaN is no key")
		}
		expectLacks(t, "P9.3: NaN is no key", &u, k)
	}
	expectTable(t, "P9.3: NaN is no key", &u, nil, nil)
	for at, k := range []float64{0, math.Inf(1), -2.5, math.Inf(-1)} {
		if !u.Put(k, at) {
			t.Errorf("P9.3: Put(%v)", k)
		}
	}
	for _, k := range odd {
		if u.Put(k, 9) || u.Put(k, 9) {
			t.Error("P9.3: NaN is no key beside others")
		}
		expectLacks(t, "P9.3: NaN is no key beside others", &u, k)
	}
	expectTable(t, "P9.3: floats", &u, []float64{math.Inf(-1), -2.5, 0, math.Inf(1)}, []int{3, 2, 0, 1})
	if u.Put(minus, 5) {
		t.Error("P9.3: 0 and -0 are the same key")
	}
	expectTable(t, "P9.3: 0 and -0", &u, []float64{math.Inf(-1), -2.5, 0, math.Inf(1)}, []int{3, 2, 5, 1})
	if !u.Cut(0) || u.Cut(minus) {
		t.Error("P9.3: Cut of 0 and -0")
	}
}

func TestTableOfAnyValues(t *testing.T) {
	var u bag.Table[int, []int]
	l := []int{1, 2}
	if !u.Put(1, l) || !u.Put(2, nil) || u.Put(2, nil) {
		t.Error("P9.3: Put of lists")
	}
	if v, ok := u.Get(2); !ok || v != nil {
		t.Errorf("P9.3: Get of a list that is nil: %v, %v", v, ok)
	}
	if v, ok := u.Get(1); !ok || &v[0] != &l[0] || len(v) != 2 {
		t.Errorf("P9.3: Get: %v, %v: not what was put", v, ok)
	}
	if v, ok := u.Get(3); ok || v != nil {
		t.Errorf("P9.3: Get of a list that isn't there: %v, %v", v, ok)
	}
	var f bag.Table[uint8, func() int]
	f.Put(255, func() int { return 7 })
	if v, ok := f.Get(255); !ok || v() != 7 {
		t.Error("P9.3: a table of functions")
	}
}

func TestKeysAreNewMemory(t *testing.T) {
	var u bag.Table[int, int]
	u.Put(1, 10)
	u.Put(2, 20)
	first, second := u.Keys(), u.Keys()
	_ = append(first, 9)
	clear(first)
	u.Cut(1)
	u.Put(3, 30)
	if !slices.Equal(second, []int{1, 2}) {
		t.Errorf("P9.3: an answer of Keys changed: %v", second)
	}
	expectTable(t, "P9.3: Keys' answer is written over", &u, []int{2, 3}, []int{20, 30})
}

func TestTablesStandAlone(t *testing.T) {
	var u, o bag.Table[int, int]
	u.Put(1, 10)
	expectLacks(t, "R8: another table", &o, 1)
	o.Put(1, 20)
	o.Put(2, 30)
	expectTable(t, "R8", &u, []int{1}, []int{10})
	expectTable(t, "R8: another table", &o, []int{1, 2}, []int{20, 30})
}
