package wire_test

import (
	"bytes"
	"encoding/binary"
	"reflect"
	"testing"

	"outworker/api"
	"outworker/wire"
)

// num: a number as chapter 1 has it, but not by its calls.
func num(n uint64) []byte { return binary.AppendUvarint(nil, n) }

// nums: numbers one behind the other.
func nums(l ...uint64) []byte {
	var b []byte
	for _, n := range l {
		b = append(b, num(n)...)
	}
	return b
}

// signed: a number that may be below 0, as chapter 1 has it, but not by its calls.
func signed(n int64) []byte { return binary.AppendVarint(nil, n) }

// join: bytes one behind the other, in new memory.
func join(parts ...[]byte) []byte { return bytes.Join(parts, nil) }

// back: an end that returns what a has.
func back(a int) api.End { return api.End{Kind: api.EReturn, A: a} }

// oneFunc: a function of one block, of 32 vregs.
func oneFunc(end api.End, ins ...api.Ins) api.Func {
	return api.Func{Params: 2, Vregs: 32, Blocks: []api.Block{{Ins: ins, End: end}}}
}

// oneCode: code of one block, of 8 registers and 64 slots.
func oneCode(end api.End, ins ...api.Ins) api.Code {
	return api.Code{Params: 2, Regs: 8, Slots: 64, Blocks: []api.Block{{Ins: ins, End: end}}}
}

// same: are two answers alike, an empty list and none being the same (R5)?
func same(a, b any) bool {
	return reflect.DeepEqual(tidy(reflect.ValueOf(a)), tidy(reflect.ValueOf(b)))
}

// tidy: a value made of numbers and lists, each list a list that isn't nil.
func tidy(v reflect.Value) any {
	switch v.Kind() {
	case reflect.Slice:
		l := make([]any, v.Len())
		for n := range l {
			l[n] = tidy(v.Index(n))
		}
		return l
	case reflect.Struct:
		l := make([]any, v.NumField())
		for n := range l {
			l[n] = tidy(v.Field(n))
		}
		return l
	}
	return v.Interface()
}

// funcIs: Func answers these bytes, and ReadFunc of them the function.
func funcIs(t *testing.T, f api.Func, want []byte, why string) {
	t.Helper()
	b, e := wire.Func(f)
	if e != api.OK || !bytes.Equal(b, want) {
		t.Errorf("P8.1: Func of %s: % x, %d; want % x", why, b, e, want)
	}
	g, e := wire.ReadFunc(want)
	if e != api.OK || !same(f, g) {
		t.Errorf("P8.2: ReadFunc of %s: %+v, %d; want %+v", why, g, e, f)
	}
}

// codeIs: Code answers these bytes, and ReadCode of them the code.
func codeIs(t *testing.T, c api.Code, want []byte, why string) {
	t.Helper()
	b, e := wire.Code(c)
	if e != api.OK || !bytes.Equal(b, want) {
		t.Errorf("P8.1: Code of %s: % x, %d; want % x", why, b, e, want)
	}
	d, e := wire.ReadCode(want)
	if e != api.OK || !same(c, d) {
		t.Errorf("P8.2: ReadCode of %s: %+v, %d; want %+v", why, d, e, c)
	}
}

// noFunc: ReadFunc answers this error, and a zero function beside it.
func noFunc(t *testing.T, b []byte, want api.Errno, why string) {
	t.Helper()
	f, e := wire.ReadFunc(b)
	if e != want {
		t.Errorf("P8.2: ReadFunc of %s (% x): %d, want %d", why, b, e, want)
	}
	if !same(f, api.Func{}) {
		t.Errorf("R3: ReadFunc of %s (% x): %+v beside an error", why, b, f)
	}
}

// noCode: ReadCode answers this error, and zero code beside it.
func noCode(t *testing.T, b []byte, want api.Errno, why string) {
	t.Helper()
	c, e := wire.ReadCode(b)
	if e != want {
		t.Errorf("P8.2: ReadCode of %s (% x): %d, want %d", why, b, e, want)
	}
	if !same(c, api.Code{}) {
		t.Errorf("R3: ReadCode of %s (% x): %+v beside an error", why, b, c)
	}
}

// noCert: ReadCert answers this error, and nothing beside it.
func noCert(t *testing.T, b []byte, want api.Errno, why string) {
	t.Helper()
	l, e := wire.ReadCert(b)
	if e != want {
		t.Errorf("P8.2: ReadCert of %s (% x): %d, want %d", why, b, e, want)
	}
	if len(l) != 0 {
		t.Errorf("R3: ReadCert of %s (% x): %v beside an error", why, b, l)
	}
}
