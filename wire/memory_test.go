package wire_test

import (
	"bytes"
	"reflect"
	"slices"
	"testing"

	"outworker/api"
	"outworker/ir"
	"outworker/wire"
)

// spoil: all of a function's lists are written over, their spare room too.
func spoil(blocks []api.Block) {
	for n := range blocks {
		ins := blocks[n].Ins[:cap(blocks[n].Ins)]
		for i := range ins {
			args := ins[i].Args[:cap(ins[i].Args)]
			for a := range args {
				args[a] = 99
			}
			ins[i] = api.Ins{Kind: 99}
		}
		blocks[n].End = api.End{Kind: 99}
	}
}

// roomy: blocks like those of mixedFunc, with room behind each of their lists.
func roomy() []api.Block {
	var l []api.Block
	for _, b := range mixed() {
		b = ir.Copied(b)
		for n := range b.Ins {
			b.Ins[n].Args = slices.Grow(b.Ins[n].Args, 3)
		}
		b.Ins = slices.Grow(b.Ins, 3)
		l = append(l, b)
	}
	return slices.Grow(l, 3)
}

func TestFuncAndCodeLeaveWhatIsHandedIn(t *testing.T) {
	blocks := roomy()
	f := api.Func{Params: 3, Vregs: 9, Blocks: blocks}
	c := api.Code{Params: 3, Regs: 8, Slots: 9, Blocks: blocks}
	b, _ := wire.Func(f)
	d, _ := wire.Code(c)
	if !reflect.DeepEqual(blocks, roomy()) {
		t.Error("R6: Func or Code changed what was handed in")
	}
	again, _ := wire.Func(f)
	clear(again[:cap(again)])
	spoil(blocks[:cap(blocks)])
	if !bytes.Equal(b, bytesOf(mixedFunc())) || !bytes.Equal(d[3:], b[2:]) {
		t.Error("R6: what Func or Code answered is no new memory")
	}
	if e, _ := wire.Func(api.Func{}); e != nil {
		t.Error("R3: bytes beside an error")
	}
}

func TestReadsLeaveWhatIsHandedIn(t *testing.T) {
	for _, r := range readings() {
		whole := join(bytesOf(r.l), []byte("and the room behind"))
		before := bytes.Clone(whole)
		b := whole[:len(whole)-len("and the room behind")]
		if e := r.read(b); e != api.OK || !bytes.Equal(whole, before) {
			t.Errorf("R6: %s changed what was handed in", r.name)
		}
	}
	b := bytesOf(mixedFunc())
	one, _ := wire.ReadFunc(b)
	two, _ := wire.ReadFunc(b)
	clear(b)
	spoil(one.Blocks[:cap(one.Blocks)])
	if !same(two, api.Func{Params: 3, Vregs: 9, Blocks: mixed()}) {
		t.Error("R6: what ReadFunc answers is no new memory")
	}
}

func TestListsOfOneAnswerShareNothing(t *testing.T) {
	b := bytesOf(mixedFunc())
	want, _ := wire.ReadFunc(b)
	for n := range want.Blocks {
		// Block by block, instruction by instruction: what is written behind one changes no other.
		got, _ := wire.ReadFunc(b)
		_ = append(got.Blocks[n].Ins, api.Ins{Kind: 99}, api.Ins{Kind: 99})
		for i := range got.Blocks[n].Ins {
			_ = append(got.Blocks[n].Ins[i].Args, 99, 99, 99)
		}
		if !same(got, want) {
			t.Errorf("R6: the lists of block %d share memory with others", n)
		}
	}
	d := bytesOf(mixedCert())
	right, _ := wire.ReadCert(d)
	got, _ := wire.ReadCert(d)
	for n := range got {
		_ = append(got[n], api.Pair{V: 99}, api.Pair{V: 99}, api.Pair{V: 99})
	}
	clear(d)
	if !same(got, right) {
		t.Error("R6: the lists of a certificate share memory with others")
	}
}

func TestCertLeavesWhatIsHandedIn(t *testing.T) {
	pairs := slices.Grow([]api.Pair{{V: 1, L: 2}}, 4)
	l := slices.Grow([][]api.Pair{pairs, pairs}, 4)
	b, _ := wire.Cert(l)
	c, _ := wire.Cert(l)
	if !same(l, [][]api.Pair{{{V: 1, L: 2}}, {{V: 1, L: 2}}}) || pairs[:2][1] != (api.Pair{}) || l[:3][2] != nil {
		t.Error("R6: Cert changed what was handed in")
	}
	clear(c[:cap(c)])
	clear(pairs)
	if !bytes.Equal(b, []byte{2, 1, 1, 2, 1, 1, 2}) {
		t.Error("R6: what Cert answers is no new memory")
	}
}
