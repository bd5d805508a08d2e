package bag_test

import (
	"math"
	"slices"
	"testing"

	"outworker/bag"
)

// vreg: a kind of number of its own, as other layers may have.
type vreg int

// highest is the greatest number that a set may have.
const highest = 4095

// others: numbers that no set has.
func others() []int {
	return []int{-1, -2, -63, -64, -65, -highest, -highest - 1, highest + 1, highest + 2, 2*highest + 1, 1 << 32, 1<<32 + 5, math.MaxInt, math.MinInt}
}

// edges: numbers at which a set may begin, end, or change from one word of memory to the next.
func edges() []int { return []int{0, 1, 31, 32, 62, 63, 64, 65, 127, 128, 4031, 4032, 4094, highest} }

// count: the numbers from 0 to below n.
func count(n int) []int {
	l := make([]int, n)
	for x := range l {
		l[x] = x
	}
	return l
}

// expectSet: a set has just these (rising), by each call that asks.
func expectSet(t *testing.T, what string, s bag.Set[int], want ...int) {
	t.Helper()
	if got := s.All(); !slices.Equal(got, want) {
		t.Errorf("%s: All: %v, want %v", what, got, want)
	}
	if s.Len() != len(want) {
		t.Errorf("%s: Len: %d, want %d", what, s.Len(), len(want))
	}
	for x := range highest + 1 {
		_, in := slices.BinarySearch(want, x)
		if s.Has(x) != in {
			t.Errorf("%s: Has(%d): %v", what, x, !in)
		}
	}
	for _, x := range others() {
		if s.Has(x) {
			t.Errorf("%s: Has(%d)", what, x)
		}
	}
}

func TestSetIsEmptyAtFirst(t *testing.T) {
	var s bag.Set[int]
	expectSet(t, "P9.1: the zero value", s)
	expectSet(t, "P9.1: Of nothing", bag.Of[int]())
	expectSet(t, "P9.1: Of an empty list", bag.Of([]int{}...))
	for _, x := range append(edges(), others()...) {
		if s.Cut(x) {
			t.Errorf("P9.1: Cut(%d) of the zero value: it was there", x)
		}
	}
	expectSet(t, "P9.1: the zero value behind Cuts", s)
}

func TestOf(t *testing.T) {
	expectSet(t, "P9.1: the example", bag.Of(5, 3, 5), 3, 5)
	expectSet(t, "P9.1: Of all that may be", bag.Of(count(highest+1)...), count(highest+1)...)
	expectSet(t, "P9.1: Of more than may be", bag.Of(count(2*highest)...), count(highest+1)...)
	expectSet(t, "P9.1: Of numbers that may not be", bag.Of(others()...))
	expectSet(t, "P9.1: Of both", bag.Of(append(others(), 7, highest, 0, 7)...), 0, 7, highest)
	for _, x := range edges() {
		expectSet(t, "P9.1: Of one", bag.Of(x), x)
	}
}

func TestSetPutAndCut(t *testing.T) {
	var s bag.Set[int]
	for _, x := range edges() {
		if !s.Put(x) || s.Put(x) || !s.Has(x) {
			t.Errorf("P9.1: Put(%d)", x)
		}
	}
	expectSet(t, "P9.1: behind Puts", s, edges()...)
	for at, x := range edges() {
		if !s.Cut(x) || s.Cut(x) || s.Has(x) {
			t.Errorf("P9.1: Cut(%d)", x)
		}
		expectSet(t, "P9.1: behind a Cut", s, edges()[at+1:]...)
	}
	if !s.Put(9) || !s.Cut(9) || !s.Put(9) {
		t.Error("P9.1: put once more")
	}
	expectSet(t, "P9.1: put once more", s, 9)
}

func TestOfOtherNumbersNothingHappens(t *testing.T) {
	for _, full := range [][]int{nil, edges(), count(highest + 1)} {
		s := bag.Of(full...)
		for _, x := range others() {
			if s.Put(x) || s.Has(x) || s.Cut(x) {
				t.Errorf("P9.1: of %d something happens", x)
			}
			expectSet(t, "P9.1: behind a number that may not be", s, full...)
		}
	}
}

func TestJoin(t *testing.T) {
	for _, c := range []struct {
		s, o, want []int
		grew       bool
	}{
		{nil, nil, nil, false},
		{nil, []int{0}, []int{0}, true},
		{[]int{0}, nil, []int{0}, false},
		{[]int{3, 5}, []int{5, 7}, []int{3, 5, 7}, true},
		{[]int{3, 5, 7}, []int{5, 7}, []int{3, 5, 7}, false},
		{[]int{3, 5}, []int{3, 5}, []int{3, 5}, false},
		{[]int{3}, []int{64 + 3}, []int{3, 64 + 3}, true},
		{[]int{highest}, []int{0}, []int{0, highest}, true},
		{[]int{0}, []int{0, highest}, []int{0, highest}, true},
		{edges(), count(highest), count(highest + 1), true},
		{count(highest + 1), count(highest + 1), count(highest + 1), false},
	} {
		s, o := bag.Of(c.s...), bag.Of(c.o...)
		if got := s.Join(o); got != c.grew {
			t.Errorf("P9.1: Join of %v and %v: %v", c.s, c.o, got)
		}
		expectSet(t, "P9.1: Join", s, c.want...)
		expectSet(t, "R6: Join's other one", o, c.o...)
		if s.Join(o) {
			t.Errorf("P9.1: Join of %v and %v once more", c.s, c.o)
		}
		expectSet(t, "P9.1: Join once more", s, c.want...)
	}
}

func TestLessAndMeet(t *testing.T) {
	for _, c := range []struct{ s, o, less, meet []int }{
		{nil, nil, nil, nil},
		{nil, []int{0, 9}, nil, nil},
		{[]int{0, 9}, nil, []int{0, 9}, nil},
		{[]int{3, 5}, []int{5, 7}, []int{3}, []int{5}},
		{[]int{3, 5}, []int{3, 5}, nil, []int{3, 5}},
		{[]int{3, 5}, []int{64 + 3, 128 + 5}, []int{3, 5}, nil},
		{[]int{0, 63, 64, highest}, []int{63, 64}, []int{0, highest}, []int{63, 64}},
		{[]int{0, 63, 64, highest}, []int{0, 1, highest}, []int{63, 64}, []int{0, highest}},
		{count(highest + 1), count(highest), []int{highest}, count(highest)},
		{[]int{7}, count(highest + 1), nil, []int{7}},
	} {
		less, meet, o := bag.Of(c.s...), bag.Of(c.s...), bag.Of(c.o...)
		less.Less(o)
		expectSet(t, "P9.1: Less", less, c.less...)
		meet.Meet(o)
		expectSet(t, "P9.1: Meet", meet, c.meet...)
		expectSet(t, "R6: the other one of Less and Meet", o, c.o...)
	}
}

func TestSetsWithThemselves(t *testing.T) {
	s := bag.Of(edges()...)
	if s.Join(s) {
		t.Error("P9.1: Join of a set with itself")
	}
	expectSet(t, "P9.1: Join of a set with itself", s, edges()...)
	s.Meet(s)
	expectSet(t, "P9.1: Meet of a set with itself", s, edges()...)
	if !s.Same(s) {
		t.Error("P9.1: Same of a set and itself")
	}
	s.Less(s)
	expectSet(t, "P9.1: Less of a set with itself", s)
}

func TestSame(t *testing.T) {
	lists := [][]int{nil, {0}, {64}, {highest}, {0, 64}, {0, highest}, edges(), count(highest), count(highest + 1)}
	for at, l := range lists {
		for other, m := range lists {
			if got := bag.Of(l...).Same(bag.Of(m...)); got != (at == other) {
				t.Errorf("P9.1: Same of %v and %v: %v", l, m, got)
			}
		}
	}
	s := bag.Of(count(highest + 1)...)
	for x := range highest + 1 {
		if x != 5 {
			s.Cut(x)
		}
	}
	if !s.Same(bag.Of(5)) || !bag.Of(5).Same(s) {
		t.Error("P9.1: Same hangs on what was there")
	}
	if !bag.Of(9, 1, 5).Same(bag.Of(5, 9, 1, 1, -1)) {
		t.Error("P9.1: Same hangs on the order of Puts")
	}
	s.Cut(5)
	var none bag.Set[int]
	if !s.Same(none) || !none.Same(s) {
		t.Error("P9.1: Same of empty sets")
	}
}

func TestCopiesShareNothing(t *testing.T) {
	s := bag.Of(5, highest)
	c := s.Copy()
	expectSet(t, "P9.1: Copy", c, 5, highest)
	s.Put(6)
	s.Cut(5)
	expectSet(t, "P9.1: a Copy when the first one changes", c, 5, highest)
	c.Put(7)
	c.Cut(highest)
	expectSet(t, "P9.1: the first one when a Copy changes", s, 6, highest)

	var none bag.Set[int]
	c = none.Copy()
	c.Put(1)
	expectSet(t, "P9.1: the zero value when its Copy changes", none)

	c = s.Copy()
	c.Meet(none)
	c.Join(bag.Of(8))
	c.Less(bag.Of(8))
	expectSet(t, "P9.1: the first one when a Copy is met, joined", s, 6, highest)
}

func TestOfIsNewMemory(t *testing.T) {
	whole := []int{9, 5, -1, 7, 7}
	s, o := bag.Of(whole[:4]...), bag.Of(whole[:4]...)
	if !slices.Equal(whole, []int{9, 5, -1, 7, 7}) {
		t.Errorf("R6: Of changed what was handed in: %v", whole)
	}
	clear(whole)
	s.Put(1)
	expectSet(t, "P9.1: Of, when another one changes", o, 5, 7, 9)
	o.Cut(5)
	expectSet(t, "P9.1: Of, when another one changes", s, 1, 5, 7, 9)
}

func TestAllIsNewMemory(t *testing.T) {
	s := bag.Of(1, 2, 3)
	first, second := s.All(), s.All()
	_ = append(first, 4)
	clear(first)
	s.Put(9)
	if !slices.Equal(second, []int{1, 2, 3}) {
		t.Errorf("P9.1: an answer of All changed: %v", second)
	}
	expectSet(t, "P9.1: All's answer is written over", s, 1, 2, 3, 9)
}

func TestJoinLeavesNoTie(t *testing.T) {
	var s bag.Set[int]
	o := bag.Of(1, 2)
	s.Join(o)
	s.Put(3)
	o.Put(4)
	expectSet(t, "R6: a set that was joined", s, 1, 2, 3)
	expectSet(t, "R6: Join's other one", o, 1, 2, 4)
}

func TestSetOfAnotherKind(t *testing.T) {
	s := bag.Of[vreg](9, 3, -1)
	join := (*bag.Set[vreg]).Join
	if !join(&s, bag.Of[vreg](4)) || join(&s, bag.Of[vreg](4)) {
		t.Error("P9.1: Join as a function")
	}
	if got := s.All(); !slices.Equal(got, []vreg{3, 4, 9}) || !s.Has(4) || s.Put(1<<40) {
		t.Errorf("P9.1: a set of another kind: %v", got)
	}
}
