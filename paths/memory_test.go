package paths_test

import (
	"reflect"
	"slices"
	"testing"

	"outworker/api"
	"outworker/paths"
)

// asked: blocks with instructions, in a list with spare room.
func asked() []api.Block {
	l := slices.Grow(blocks(branch(2, 1), jump(3), jump(3), branch(0, 4), back(), back()), 3)
	l[0].Ins = []api.Ins{{Kind: api.KCall, N: 4, Args: []int{0, 0}}}
	spare := l[len(l):cap(l)]
	for i := range spare {
		spare[i].End = jump(7 + i)
	}
	return l
}

func TestNothingIsChanged(t *testing.T) {
	l, same := asked(), asked()
	for range 2 {
		for b := range l {
			paths.Next(l[b].End)
		}
		paths.Ahead(l)
		paths.Reach(l)
		paths.Order(l)
	}
	if !reflect.DeepEqual(l[:cap(l)], same[:cap(same)]) {
		t.Error("R6: the blocks that were handed in are changed")
	}
}

// spoil: a list, and its spare room, has other numbers.
func spoil(l []int) {
	l = l[:cap(l)]
	for i := range l {
		l[i] = -9
	}
}

func TestAnswersAreNew(t *testing.T) {
	l := asked()
	spoil(paths.Next(l[0].End))
	if got := paths.Next(l[0].End); !slices.Equal(got, []int{2, 1}) {
		t.Errorf("R6: Next = %v behind a change of the answer ahead", got)
	}
	spoil(paths.Order(l))
	if got := paths.Order(l); !slices.Equal(got, []int{0, 1, 2, 3, 4}) {
		t.Errorf("R6: Order = %v behind a change of the answer ahead", got)
	}
	s := paths.Reach(l)
	s.Put(5)
	s.Cut(1)
	if got := paths.Reach(l); !slices.Equal(got.All(), []int{0, 1, 2, 3, 4}) {
		t.Errorf("R6: Reach = %v behind a change of the answer ahead", got.All())
	}
}

func TestListsShareNothing(t *testing.T) {
	l := asked()
	want := [][]int{{3}, {0}, {0}, {1, 2}, {3}, {}}
	for b := range l {
		ahead := paths.Ahead(l)
		spoil(ahead[b])
		for n := range l {
			if n != b && !slices.Equal(ahead[n], want[n]) {
				t.Errorf("R6: Ahead of %d: %v behind a change of that of %d", n, ahead[n], b)
			}
		}
	}
}
