package leb_test

import (
	"bytes"
	"encoding/binary"
	"math"
	"math/bits"
	"testing"

	"outworker/leb"
)

// edges: numbers around each power of two, where the bytes grow by one or a bit moves on.
func edges() []uint64 {
	l := []uint64{0, math.MaxUint64, math.MaxInt64, 300, 0xaaaaaaaaaaaaaaaa, 0x5555555555555555}
	for i := range 64 {
		p := uint64(1) << i
		l = append(l, p-1, p, p+1, ^p)
	}
	return l
}

func TestPutWritten(t *testing.T) {
	nine := func(c byte) string { return string(bytes.Repeat([]byte{c}, 9)) }
	for _, c := range []struct {
		n    uint64
		want string
	}{
		{0, "\x00"},
		{1, "\x01"},
		{127, "\x7f"},
		{128, "\x80\x01"},
		{300, "\xac\x02"},
		{16383, "\xff\x7f"},
		{16384, "\x80\x80\x01"},
		{1<<63 - 1, "\xff\xff\xff\xff\xff\xff\xff\xff\x7f"},
		{1 << 63, nine(0x80) + "\x01"},
		{math.MaxUint64, nine(0xff) + "\x01"},
	} {
		if got := leb.Put(nil, c.n); string(got) != c.want {
			t.Errorf("P1.1: Put of %d: % x, want % x", c.n, got, c.want)
		}
	}
}

func TestPutIntWritten(t *testing.T) {
	nine := func(first byte) string {
		return string(append([]byte{first}, bytes.Repeat([]byte{0xff}, 8)...))
	}
	for _, c := range []struct {
		n    int64
		want string
	}{
		{0, "\x00"},
		{-1, "\x01"},
		{1, "\x02"},
		{-2, "\x03"},
		{63, "\x7e"},
		{-64, "\x7f"},
		{64, "\x80\x01"},
		{-65, "\x81\x01"},
		{150, "\xac\x02"},
		{math.MaxInt64, nine(0xfe) + "\x01"},
		{math.MinInt64 + 1, nine(0xfd) + "\x01"},
		{math.MinInt64, nine(0xff) + "\x01"},
	} {
		if got := leb.PutInt(nil, c.n); string(got) != c.want {
			t.Errorf("P1.1: PutInt of %d: % x, want % x", c.n, got, c.want)
		}
	}
}

func TestPutAtEdges(t *testing.T) {
	for _, n := range edges() {
		got := leb.Put(nil, n)
		if want := binary.AppendUvarint(nil, n); !bytes.Equal(got, want) {
			t.Errorf("P1.1: Put of %d: % x, want % x", n, got, want)
		}
		if want := max(1, (bits.Len64(n)+6)/7); len(got) != want {
			t.Errorf("P1.1: Put of %d has %d bytes, want %d", n, len(got), want)
		}
		i := int64(n)
		if got, want := leb.PutInt(nil, i), binary.AppendVarint(nil, i); !bytes.Equal(got, want) {
			t.Errorf("P1.1: PutInt of %d: % x, want % x", i, got, want)
		}
	}
}

// puts: both calls, as one kind, with a number that takes two bytes.
var puts = map[string]func(b []byte) []byte{
	"Put":    func(b []byte) []byte { return leb.Put(b, 300) },
	"PutInt": func(b []byte) []byte { return leb.PutInt(b, 150) },
}

func TestPutStandsBehind(t *testing.T) {
	for name, put := range puts {
		for _, front := range []string{"", "x", "\x80", "\x00\x00", "some bytes, many more than a number has"} {
			if got := put([]byte(front)); string(got) != front+"\xac\x02" {
				t.Errorf("P1.1: %s behind % x: % x", name, front, got)
			}
		}
		if got := put(nil); string(got) != "\xac\x02" {
			t.Errorf("P1.1, R5: %s behind nil: % x", name, got)
		}
		if got := put(put(put(nil))); string(got) != "\xac\x02\xac\x02\xac\x02" {
			t.Errorf("P1.1: %s thrice: % x", name, got)
		}
	}
}

func TestPutLeavesWhatIsHandedIn(t *testing.T) {
	for name, put := range puts {
		whole := []byte("front and the room behind it")
		front := whole[:5]
		got := put(front)
		if string(whole) != "front and the room behind it" {
			t.Errorf("R6: %s wrote into what was handed in: %q", name, whole)
		}
		for i := range got[:cap(got)] {
			got[:cap(got)][i] = '!'
		}
		if string(whole) != "front and the room behind it" {
			t.Errorf("R6: the answer of %s shares memory with what was handed in: %q", name, whole)
		}
	}
}

func TestPutAnswersStandAlone(t *testing.T) {
	for name, put := range puts {
		front := append(make([]byte, 0, 64), "front"...)
		first := put(front)
		second := leb.Put(front, 7)
		third := put(first)
		front[0] = 'F'
		if string(first) != "front\xac\x02" || string(second) != "front\x07" || string(third) != "front\xac\x02\xac\x02" {
			t.Errorf("R6: answers of %s share memory: %q %q %q", name, first, second, third)
		}
	}
}
