package live_test

import (
	"reflect"
	"slices"
	"testing"

	"outworker/api"
	"outworker/bag"
	"outworker/live"
)

// asked: blocks with calls and a loop, each list with spare room.
func asked() []api.Block {
	args := append(make([]int, 0, 4), 1, 2)
	args[:3][2] = 77
	ins := append(make([]api.Ins, 0, 5), constant(0), call(3, 1, 2))
	ins[1].Args = args
	ins[:3][2] = move(5, 6)
	l := append(make([]api.Block, 0, 5), of(jump(1)), of(branch(3, 1, 2)), of(back(1)))
	l[1].Ins = ins
	l[:4][3] = of(back(8), constant(9))
	return l
}

// room: a list, and what stands in its spare room.
func room[T any](l []T) []T { return l[:cap(l)] }

func TestNothingIsChanged(t *testing.T) {
	l, same := asked(), asked()
	out := bag.Of(1, 2, 7)
	for range 2 {
		live.Of(l)
		for b := range l {
			live.Behind(l[b], out)
		}
	}
	ins, args := room(l[1].Ins), room(l[1].Ins[1].Args)
	if !reflect.DeepEqual(room(l), room(same)) || !reflect.DeepEqual(ins, room(same[1].Ins)) || !slices.Equal(args, room(same[1].Ins[1].Args)) {
		t.Error("R6: the blocks that were handed in are changed")
	}
	if !slices.Equal(out.All(), []int{1, 2, 7}) {
		t.Errorf("R6: what is needed behind the end is changed: %v", out.All())
	}
}

// spoil: sets, and those in their spare room, have other numbers.
func spoil(l []bag.Set[int]) {
	for n := range room(l) {
		room(l)[n] = bag.Of(99)
	}
}

func TestAnswersAreNew(t *testing.T) {
	l := asked()
	wantIn, wantOut := [][]int{{1, 2}, {1, 2}, {1}}, [][]int{{1, 2}, {1, 2}, {}}
	in, out := live.Of(l)
	expect(t, "P12.1: at the beginning", in, wantIn...)
	expect(t, "P12.1: behind the end", out, wantOut...)
	spoil(in)
	expect(t, "R6: behind the end, the other answer written over", out, wantOut...)
	in, again := live.Of(l)
	spoil(out)
	expect(t, "R6: at the beginning, the answer ahead written over", in, wantIn...)
	expect(t, "R6: behind the end, the answer ahead written over", again, wantOut...)
	spoil(again)
	expect(t, "R6: at the beginning, the other answer written over", in, wantIn...)
}

func TestBehindIsNew(t *testing.T) {
	b := asked()[1]
	want := [][]int{{1, 2}, {1, 2, 3}}
	first := live.Behind(b, bag.Of(1, 2))
	second := live.Behind(b, bag.Of(1, 2))
	expect(t, "P12.1: Behind", first, want...)
	spoil(first)
	expect(t, "R6: Behind, the answer ahead written over", second, want...)
	expect(t, "R6: Behind, the answer ahead written over", live.Behind(b, bag.Of(1, 2)), want...)
	second[0].Put(50)
	expect(t, "R6: Behind, another set of it changed", second[1:], want[1])
}

func TestWhatChangesLater(t *testing.T) {
	// Nothing of what was handed in is kept: a change of it, behind the call, changes no answer.
	l := asked()
	in, out := live.Of(l)
	behind := live.Behind(l[1], out[1])
	l[1].Ins[0], l[1].Ins[1].Args[0], l[2].End.A = store(20, 21), 22, 23
	expect(t, "R6: at the beginning", in, []int{1, 2}, []int{1, 2}, []int{1})
	expect(t, "R6: behind the end", out, []int{1, 2}, []int{1, 2}, nil)
	expect(t, "R6: Behind", behind, []int{1, 2}, []int{1, 2, 3})
}

func TestOddBlocksEnd(t *testing.T) {
	// Nothing is promised of what these answer, but a caller shall not fall by them.
	far := []int{-1 << 63, -1, 0, 2, 4096, 1<<63 - 1}
	for kind := range 12 {
		for _, v := range far {
			i := api.Ins{Kind: api.Kind(kind), Op: 9, D: v, A: v, B: v, Args: far}
			l := []api.Block{of(api.End{Kind: api.EndKind(kind), A: v, To: v, Else: v}, i, i), of(jump(0))}
			in, out := live.Of(l)
			if n := len(live.Behind(l[0], bag.Of(far...))); len(in) != 2 || len(out) != 2 || n != 2 {
				t.Errorf("P1: kind %d, %d: %d, %d, %d sets", kind, v, len(in), len(out), n)
			}
		}
	}
}
