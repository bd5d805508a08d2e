package wire_test

import (
	"bytes"
	"math"
	"slices"
	"testing"

	"outworker/api"
	"outworker/wire"
)

// certIs: Cert answers these bytes, and ReadCert of them the lists.
func certIs(t *testing.T, l [][]api.Pair, want []byte, why string) {
	t.Helper()
	b, e := wire.Cert(l)
	if e != api.OK || !bytes.Equal(b, want) {
		t.Errorf("P8.1: Cert of %s: %d bytes, %d; want % x", why, len(b), e, want[:min(40, len(want))])
	}
	g, e := wire.ReadCert(want)
	if e != api.OK || !same(g, l) {
		t.Errorf("P8.2: ReadCert of %s: %d lists, %d", why, len(g), e)
	}
}

func TestBytesOfCertificates(t *testing.T) {
	certIs(t, nil, []byte{0}, "nil")
	certIs(t, [][]api.Pair{}, []byte{0}, "nothing")
	certIs(t, [][]api.Pair{nil}, []byte{1, 0}, "a list that is nil")
	certIs(t, [][]api.Pair{{}, nil, {}}, []byte{3, 0, 0, 0}, "empty lists")
	certIs(t, [][]api.Pair{{{V: 0, L: 3}}}, []byte{1, 1, 0, 3}, "one pair")
	certIs(t, [][]api.Pair{{{V: 1, L: 2}}, nil, {{V: 3, L: 4}, {V: 5, L: 127}}}, []byte{3, 1, 1, 2, 0, 2, 3, 4, 5, 127}, "three lists")
	certIs(t, [][]api.Pair{{{V: 128, L: 4095}, {V: 4095}}}, []byte{1, 2, 0x80, 1, 0xff, 0x1f, 0xff, 0x1f, 0}, "numbers of two bytes")
	certIs(t, [][]api.Pair{{{V: 9, L: 9}, {V: 1, L: 1}, {V: 9, L: 9}}}, []byte{1, 3, 9, 9, 1, 1, 9, 9}, "pairs that don't rise")
	certIs(t, make([][]api.Pair, 16), append([]byte{16}, make([]byte, 16)...), "16 lists")
}

// noCertBytes: Cert answers this error, and nothing beside it.
func noCertBytes(t *testing.T, l [][]api.Pair, want api.Errno, why string) {
	t.Helper()
	if b, e := wire.Cert(l); e != want || len(b) != 0 {
		t.Errorf("P8.1: Cert of %s: % x, %d; want nothing, %d", why, b, e, want)
	}
}

func TestCertOfFaults(t *testing.T) {
	bad := []int{math.MinInt, -4096, -1, 4096, 4097, 1 << 32, 1<<32 + 1, math.MaxInt}
	for _, n := range bad {
		for _, p := range []api.Pair{{V: n}, {L: n}, {V: n, L: n}, {V: n, L: 4095}, {V: 4095, L: n}} {
			noCertBytes(t, [][]api.Pair{{p}}, api.ErrRange, "a number that may not be")
			noCertBytes(t, [][]api.Pair{{{V: 1, L: 1}, p, {V: 2, L: 2}}}, api.ErrRange, "a number that may not be, among others")
			noCertBytes(t, append(make([][]api.Pair, 15), []api.Pair{p}), api.ErrRange, "a number that may not be, in the last list")
		}
	}
	for _, n := range []int{17, 18, 100, 70000} {
		l := make([][]api.Pair, n)
		noCertBytes(t, l, api.ErrMany, "too many lists")
		l[0] = []api.Pair{{V: -1}}
		noCertBytes(t, l, api.ErrMany, "too many lists, and a number that may not be")
	}
}

func TestLongCertificates(t *testing.T) {
	var pairs []api.Pair
	var b []byte
	for n := range 65535 {
		p := api.Pair{V: n % 4096, L: 4095 - n/16}
		pairs = append(pairs, p)
		b = append(b, nums(uint64(p.V), uint64(p.L))...)
	}
	one := join(num(65535), b)
	certIs(t, [][]api.Pair{pairs}, join([]byte{1}, one), "65535 pairs")
	all, e := wire.Cert(slices.Repeat([][]api.Pair{pairs}, 16))
	if e != api.OK || !bytes.Equal(all, join([]byte{16}, slices.Repeat(one, 16))) {
		t.Errorf("P8.1: Cert of 16 lists of 65535 pairs: %d bytes, %d", len(all), e)
	}
	l, e := wire.ReadCert(all)
	if e != api.OK || len(l) != 16 || !slices.Equal(l[0], pairs) || !slices.Equal(l[15], pairs) {
		t.Errorf("P8.2: ReadCert of 16 lists of 65535 pairs: %d lists, %d", len(l), e)
	}
	// Chapter 8 says of no Cert that it has too many pairs, but of ReadCert.
	more := append(slices.Clone(pairs), api.Pair{})
	longer := join([]byte{1}, num(65536), b, []byte{0, 0})
	if got, e := wire.Cert([][]api.Pair{more}); e != api.OK || !bytes.Equal(got, longer) {
		t.Errorf("P8.1: Cert of 65536 pairs: %d bytes, %d", len(got), e)
	}
	if l, e := wire.ReadCert(longer); e != api.ErrRange || len(l) != 0 {
		t.Errorf("P8.2: ReadCert of 65536 pairs: %d lists, %d", len(l), e)
	}
}

func TestReadCertOfFaults(t *testing.T) {
	for _, c := range []struct {
		b    []byte
		want api.Errno
		why  string
	}{
		{nil, api.ErrShort, "nil"},
		{[]byte{}, api.ErrShort, "nothing"},
		{[]byte{1}, api.ErrShort, "a list that isn't there"},
		{[]byte{16}, api.ErrShort, "16 lists that aren't there"},
		{[]byte{17}, api.ErrRange, "17 lists that aren't there"},
		{make([]byte, 17), api.ErrRest, "no lists, and bytes behind them"},
		{append([]byte{17}, make([]byte, 17)...), api.ErrRange, "17 lists"},
		{[]byte{0x80, 0}, api.ErrForm, "0 in two bytes"},
		{[]byte{1, 1}, api.ErrShort, "a pair that isn't there"},
		{[]byte{1, 1, 0}, api.ErrShort, "half a pair"},
		{[]byte{2, 1, 0, 0}, api.ErrShort, "one list of two"},
		{join([]byte{1}, num(65535)), api.ErrShort, "65535 pairs that aren't there"},
		{join([]byte{16}, num(65535), []byte{1, 1}), api.ErrShort, "one pair of 65535"},
		{join([]byte{16}, num(65535), num(65535)), api.ErrRange, "V 65535"},
		{join([]byte{1}, num(65536)), api.ErrRange, "65536 pairs that aren't there"},
		{join([]byte{1}, num(math.MaxUint64)), api.ErrRange, "2^64 - 1 pairs"},
		{join(num(math.MaxUint64), []byte{0}), api.ErrRange, "2^64 - 1 lists"},
		{nums(1, 1, 4096, 0), api.ErrRange, "V 4096"},
		{nums(1, 1, 0, 4096), api.ErrRange, "L 4096"},
		{nums(1, 1, 0, math.MaxUint64), api.ErrRange, "L 2^64 - 1"},
		{nums(1, 1, 4096), api.ErrRange, "V 4096, and no L"},
		{nums(1, 1, 0, 4096, 0), api.ErrRange, "L 4096, and a byte behind it"},
		{[]byte{1, 1, 0x85, 0, 0}, api.ErrForm, "V in more bytes than it needs"},
		{[]byte{1, 1, 0, 0, 0}, api.ErrRest, "a byte behind it"},
		{[]byte{0, 0}, api.ErrRest, "no lists, and a byte behind"},
	} {
		noCert(t, c.b, c.want, c.why)
	}
}

func TestReadCertOfEachByte(t *testing.T) {
	b, _ := wire.Cert([][]api.Pair{{{V: 1, L: 300}, {V: 4095}}, nil, {{V: 3, L: 4}, {V: 5, L: 127}}})
	for n := range b {
		noCert(t, b[:n:n], api.ErrShort, "a certificate cut off")
		noCert(t, b[:n], api.ErrShort, "a certificate cut off, its rest in the room behind")
	}
	for c := range 256 {
		noCert(t, append(slices.Clone(b), byte(c)), api.ErrRest, "a certificate, and a byte behind it")
	}
}
