package leb_test

import (
	"bytes"
	"encoding/binary"
	"math"
	"strings"
	"testing"

	"outworker/api"
	"outworker/leb"
)

// expect: the fault and how many bytes are left.
func expect(t *testing.T, what string, r *leb.Reader, code api.Errno, left int) {
	t.Helper()
	if r.Code() != code || r.Left() != left {
		t.Errorf("%s: fault %d with %d left, want %d with %d", what, r.Code(), r.Left(), code, left)
	}
}

// expectStill: behind a fault nothing is taken, all are 0 or nothing, and the fault stays.
func expectStill(t *testing.T, what string, r *leb.Reader) {
	t.Helper()
	code, left := r.Code(), r.Left()
	if code == api.OK {
		t.Errorf("%s: no fault", what)
		return
	}
	if n := r.Num(); n != 0 {
		t.Errorf("%s: Num behind a fault: %d", what, n)
	}
	if n := r.Int(); n != 0 {
		t.Errorf("%s: Int behind a fault: %d", what, n)
	}
	for _, limit := range []int{math.MaxInt, 1, 0, -1} {
		if n := r.Below(limit); n != 0 {
			t.Errorf("%s: Below(%d) behind a fault: %d", what, limit, n)
		}
	}
	for _, n := range []int{0, 1, left, left + 1, -1} {
		if b := r.Bytes(n); len(b) != 0 {
			t.Errorf("%s: Bytes(%d) behind a fault: % x", what, n, b)
		}
	}
	r.Fail(api.ErrKind)
	r.Fail(api.OK)
	if e := r.End(); e != code {
		t.Errorf("%s: End behind fault %d: %d", what, code, e)
	}
	expect(t, what+", behind its fault", r, code, left)
}

func TestNumTakes(t *testing.T) {
	for _, n := range edges() {
		r := leb.New(append(leb.Put(nil, n), "\x80 behind"...))
		if got := r.Num(); got != n {
			t.Errorf("P1.2: Num: %d, want %d", got, n)
		}
		expect(t, "P1.2: Num", r, api.OK, 8)
		if got := r.Bytes(8); string(got) != "\x80 behind" || r.End() != api.OK {
			t.Errorf("P1.2: behind a Num: %q, %d", got, r.Code())
		}
	}
}

func TestIntTakes(t *testing.T) {
	for _, n := range edges() {
		i := int64(n)
		r := leb.New(append(leb.PutInt(nil, i), 'x'))
		if got := r.Int(); got != i {
			t.Errorf("P1.2: Int: %d, want %d", got, i)
		}
		expect(t, "P1.2: Int", r, api.OK, 1)
	}
}

func TestOneBehindTheOther(t *testing.T) {
	var b []byte
	for _, n := range edges() {
		b = leb.PutInt(leb.Put(b, n), int64(n))
	}
	r := leb.New(b)
	for _, n := range edges() {
		if u, i := r.Num(), r.Int(); u != n || i != int64(n) {
			t.Errorf("P1.2: %d, %d in a row, want %d, %d", u, i, n, int64(n))
		}
	}
	if e := r.End(); e != api.OK {
		t.Errorf("P1.2: End behind a row: %d", e)
	}
	r = leb.New([]byte{0, 0, 0x80, 1})
	if r.Num() != 0 || r.Num() != 0 || r.Num() != 128 || r.End() != api.OK {
		t.Error("P1.2: a first byte 0 is the number 0")
	}
}

// numFaults: bytes that no Num takes.
func numFaults() []struct {
	b    string
	want api.Errno
} {
	full := strings.Repeat("\xff", 9)
	bare := strings.Repeat("\x80", 9)
	return []struct {
		b    string
		want api.Errno
	}{
		{"", api.ErrShort},
		{"\x80", api.ErrShort},
		{"\xff", api.ErrShort},
		{"\xac\x82", api.ErrShort},
		{full[:8], api.ErrShort},
		{full, api.ErrShort},
		{bare, api.ErrShort},
		{"\x80\x00", api.ErrForm},
		{"\xff\x00", api.ErrForm},
		{"\x80\x80\x00", api.ErrForm},
		{"\x81\x82\x00\x01", api.ErrForm},
		{full[:8] + "\x00", api.ErrForm},
		{full + "\x00", api.ErrForm},
		{bare + "\x00", api.ErrForm},
		{full + "\x02", api.ErrForm},
		{bare + "\x03", api.ErrForm},
		{full + "\x7f", api.ErrForm},
		{full + "\x80", api.ErrForm},
		{full + "\x81", api.ErrForm},
		{full + "\x80\x00", api.ErrForm},
		{full + "\x81\x01", api.ErrForm},
		{full + "\xff\xff\xff", api.ErrForm},
	}
}

func TestNumFaults(t *testing.T) {
	for _, c := range numFaults() {
		r := leb.New([]byte(c.b))
		if n := r.Num(); n != 0 {
			t.Errorf("P1.2: Num of % x: %d", c.b, n)
		}
		expect(t, "P1.2: Num of bad bytes", r, c.want, len(c.b))
		expectStill(t, "P1.2: Num of bad bytes", r)

		r = leb.New([]byte(c.b))
		if n := r.Int(); n != 0 {
			t.Errorf("P1.2: Int of % x: %d", c.b, n)
		}
		expect(t, "P1.2: Int of bad bytes", r, c.want, len(c.b))
		expectStill(t, "P1.2: Int of bad bytes", r)

		for _, limit := range []int{math.MaxInt, 1, 0, -1} {
			r = leb.New([]byte(c.b))
			if n := r.Below(limit); n != 0 {
				t.Errorf("P1.2: Below(%d) of % x: %d", limit, c.b, n)
			}
			expect(t, "P1.2: Below of bad bytes: Num's fault", r, c.want, len(c.b))
			expectStill(t, "P1.2: Below of bad bytes", r)
		}
	}
}

func TestFaultBehindNumbers(t *testing.T) {
	r := leb.New([]byte{5, 0xac, 2, 0x80, 0, 7})
	if r.Num() != 5 || r.Num() != 300 || r.Num() != 0 {
		t.Error("P1.2: numbers ahead of a fault")
	}
	expect(t, "P1.2: a fault behind numbers", r, api.ErrForm, 3)
	expectStill(t, "P1.2: a fault behind numbers", r)
}

// wantNum: what Num answers, worked out by the library's reader and the one way to write a number.
func wantNum(b []byte) (uint64, int, api.Errno) {
	n, size := binary.Uvarint(b)
	switch {
	case size == 0 && len(b) < binary.MaxVarintLen64:
		return 0, 0, api.ErrShort
	case size <= 0 || !bytes.Equal(binary.AppendUvarint(nil, n), b[:size]):
		return 0, 0, api.ErrForm
	}
	return n, size, api.OK
}

func TestNumOfAllShortBytes(t *testing.T) {
	one := func(b []byte) {
		n, size, e := wantNum(b)
		r := leb.New(b)
		if got := r.Num(); got != n || r.Code() != e || r.Left() != len(b)-size {
			t.Fatalf("P1.2: Num of % x: %d, fault %d, %d left; want %d, %d, %d", b, got, r.Code(), r.Left(), n, e, len(b)-size)
		}
	}
	heads := []string{"", strings.Repeat("\xff", 7), strings.Repeat("\x80", 8), strings.Repeat("\xff", 8), strings.Repeat("\x80", 9)}
	for _, head := range heads {
		for x := range 256 {
			b := append([]byte(head), byte(x))
			one(b)
			for y := range 256 {
				one(append(b, byte(y)))
			}
		}
	}
}

func TestBelow(t *testing.T) {
	for _, c := range []struct {
		n     uint64
		limit int
		want  api.Errno
	}{
		{0, 1, api.OK},
		{4, 5, api.OK},
		{5, 5, api.ErrRange},
		{6, 5, api.ErrRange},
		{4095, 4096, api.OK},
		{4096, 4096, api.ErrRange},
		{0, 0, api.ErrRange},
		{0, -1, api.ErrRange},
		{5, -1, api.ErrRange},
		{0, math.MinInt, api.ErrRange},
		{math.MaxUint64, math.MinInt, api.ErrRange},
		{math.MaxUint64, -1, api.ErrRange},
		{math.MaxInt - 1, math.MaxInt, api.OK},
		{math.MaxInt, math.MaxInt, api.ErrRange},
		{1 << 63, math.MaxInt, api.ErrRange},
		{1 << 63, 1, api.ErrRange},
		{math.MaxUint64, math.MaxInt, api.ErrRange},
		{math.MaxUint64, 1, api.ErrRange},
	} {
		r := leb.New(append(leb.Put(nil, c.n), 7, 8))
		got, want := r.Below(c.limit), int(c.n)
		if c.want != api.OK {
			want = 0
		}
		if got != want {
			t.Errorf("P1.2: Below(%d) of %d: %d, want %d", c.limit, c.n, got, want)
		}
		expect(t, "P1.2: Below takes the number", r, c.want, 2)
		if c.want != api.OK {
			expectStill(t, "P1.2: Below", r)
		}
	}
}

func TestBytes(t *testing.T) {
	r := leb.New([]byte("abcdef"))
	for _, want := range []string{"", "a", "bc", "", "def", ""} {
		if got := r.Bytes(len(want)); string(got) != want {
			t.Errorf("P1.2: Bytes(%d): %q, want %q", len(want), got, want)
		}
	}
	expect(t, "P1.2: Bytes to the last", r, api.OK, 0)
	if e := r.End(); e != api.OK {
		t.Errorf("P1.2: End behind all bytes: %d", e)
	}
}

func TestBytesShort(t *testing.T) {
	for _, b := range []string{"", "a", "abc"} {
		for _, n := range []int{len(b) + 1, len(b) + 2, math.MaxInt, -1, -len(b) - 1, math.MinInt} {
			r := leb.New([]byte(b))
			if got := r.Bytes(n); len(got) != 0 {
				t.Errorf("P1.2: Bytes(%d) of %q: %q", n, b, got)
			}
			expect(t, "P1.2: Bytes of too few", r, api.ErrShort, len(b))
			expectStill(t, "P1.2: Bytes of too few", r)
		}
	}
}

func TestFail(t *testing.T) {
	for _, code := range []api.Errno{api.ErrShape, api.ErrNil, api.ErrRest, 1000, -1} {
		r := leb.New([]byte{1, 2, 3})
		r.Fail(api.OK)
		expect(t, "P1.2: Fail of OK is none", r, api.OK, 3)
		if r.Num() != 1 {
			t.Error("P1.2: Num behind Fail of OK")
		}
		r.Fail(code)
		expect(t, "P1.2: Fail", r, code, 2)
		r.Fail(api.ErrMagic)
		r.Fail(api.OK)
		expect(t, "P1.2: the first fault stays", r, code, 2)
		expectStill(t, "P1.2: Fail", r)
	}
}

func TestEnd(t *testing.T) {
	for _, b := range [][]byte{nil, {}} {
		r := leb.New(b)
		expect(t, "P1.2: of no bytes", r, api.OK, 0)
		if e := r.End(); e != api.OK {
			t.Errorf("P1.2: End of no bytes: %d", e)
		}
		expect(t, "P1.2: End of no bytes", r, api.OK, 0)
	}

	for _, left := range []int{1, 2, 300} {
		r := leb.New(append([]byte{5}, make([]byte, left)...))
		r.Num()
		if e := r.End(); e != api.ErrRest {
			t.Errorf("P1.2: End with %d bytes left: %d", left, e)
		}
		expect(t, "P1.2: ErrRest is the fault", r, api.ErrRest, left)
		expectStill(t, "P1.2: ErrRest is the fault", r)
	}

	r := leb.New([]byte{1, 2, 3})
	r.Fail(api.ErrForm)
	if e := r.End(); e != api.ErrForm {
		t.Errorf("P1.2: End with bytes left behind another fault: %d", e)
	}

	r = leb.New([]byte{1})
	if r.Num() != 1 || r.End() != api.OK || r.Num() != 0 || r.End() != api.ErrShort {
		t.Error("P1.2: a fault behind an End without one")
	}
}

func TestSpareRoomIsNotRead(t *testing.T) {
	whole := []byte{0x80, 1, 2, 3}
	r := leb.New(whole[:1])
	expect(t, "R6: spare room isn't there", r, api.OK, 1)
	if n := r.Num(); n != 0 {
		t.Errorf("R6: Num read spare room: %d", n)
	}
	expect(t, "R6: Num ahead of spare room", r, api.ErrShort, 1)

	r = leb.New(whole[:2])
	if b := r.Bytes(3); len(b) != 0 {
		t.Errorf("R6: Bytes read spare room: % x", b)
	}
	expect(t, "R6: Bytes ahead of spare room", r, api.ErrShort, 2)

	r = leb.New(whole[:0])
	if e := r.End(); e != api.OK {
		t.Errorf("R6: End counts spare room: %d", e)
	}
}

func TestReaderKeepsNothingHandedIn(t *testing.T) {
	whole := []byte{5, 0xac, 2, 'a', 'b', 'c'}
	r := leb.New(whole[:5])
	before := bytes.Clone(whole)
	if r.Num() != 5 {
		t.Error("P1.2: Num")
	}
	if !bytes.Equal(whole, before) {
		t.Errorf("R6: the reader changed what was handed in: % x", whole)
	}
	clear(whole)
	if r.Num() != 300 || string(r.Bytes(2)) != "ab" || r.End() != api.OK {
		t.Error("R6: the reader reads what was changed behind New")
	}
	if !bytes.Equal(whole, make([]byte, len(whole))) {
		t.Errorf("R6: the reader wrote into what was handed in: % x", whole)
	}
}

func TestBytesAreNewMemory(t *testing.T) {
	b := []byte("abcd")
	r := leb.New(b)
	first := r.Bytes(2)
	_ = append(first, '!', '!')
	clear(first)
	second := r.Bytes(2)
	clear(b)
	if string(second) != "cd" || !bytes.Equal(first, []byte{0, 0}) {
		t.Errorf("R6: Bytes shares memory: % x, %q", first, second)
	}
	b = []byte("abcd")
	clear(leb.New(b).Bytes(4))
	if string(b) != "abcd" {
		t.Errorf("R6: Bytes shares memory with what was handed in: %q", b)
	}
}

func TestReadersStandAlone(t *testing.T) {
	b := []byte{1, 2, 3}
	first, second := leb.New(b), leb.New(b)
	first.Num()
	first.Fail(api.ErrForm)
	expect(t, "R8: another reader", second, api.OK, 3)
	if second.Num() != 1 || second.Num() != 2 || second.Num() != 3 || second.End() != api.OK {
		t.Error("R8: a reader hangs on another one")
	}
}
