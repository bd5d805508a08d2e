package frame_test

import (
	"bytes"
	"encoding/binary"
	"hash/crc32"
	"math/rand"
	"testing"

	"outworker/api"
	"outworker/frame"
)

// noise: so many bytes, the same in each run.
func noise(seed int64, n int) []byte {
	b := make([]byte, n)
	rand.New(rand.NewSource(seed)).Read(b)
	return b
}

// byHand: a frame as the document's words have it, by the library's means; the length may be any bytes.
func byHand(kind uint8, length, body []byte) []byte {
	out := append([]byte{0x6f, kind}, length...)
	out = binary.LittleEndian.AppendUint32(out, crc32.ChecksumIEEE(append([]byte{kind}, body...)))
	return append(out, body...)
}

// whole: byHand with the length that the body has.
func whole(kind uint8, body []byte) []byte {
	return byHand(kind, binary.AppendUvarint(nil, uint64(len(body))), body)
}

// lay: Lay, where it may not refuse.
func lay(t *testing.T, kind uint8, body []byte) []byte {
	t.Helper()
	b, e := frame.Lay(kind, body)
	if e != api.OK {
		t.Fatalf("P3.1: Lay of %d bytes: %d", len(body), e)
	}
	return b
}

func TestLayWritten(t *testing.T) {
	for _, c := range []struct {
		kind uint8
		body string
		want string
	}{
		// Sums worked out by another CRC-32.
		{1, "a", "\x6f\x01\x01\x70\x72\x77\x62\x61"},
		{0, "", "\x6f\x00\x00\x8d\xef\x02\xd2"},
		{255, "", "\x6f\xff\x00\x00\x00\x00\xff"},
		{0x6f, "oo", "\x6f\x6f\x02\xae\x5e\xa2\x83\x6f\x6f"},
	} {
		got := lay(t, c.kind, []byte(c.body))
		if string(got) != c.want {
			t.Errorf("P3.1: Lay of kind %d, %q: % x, want % x", c.kind, c.body, got, c.want)
		}
	}
}

func TestLayOfEachKind(t *testing.T) {
	for kind := range 256 {
		for _, body := range [][]byte{nil, {0}, {byte(kind)}, []byte("a body")} {
			if got, want := lay(t, uint8(kind), body), whole(uint8(kind), body); !bytes.Equal(got, want) {
				t.Errorf("P3.1: Lay of kind %d, % x: % x, want % x", kind, body, got, want)
			}
		}
	}
}

func TestLayOfManyLengths(t *testing.T) {
	b := noise(1, api.MaxBody)
	for _, n := range []int{0, 1, 2, 126, 127, 128, 129, 255, 256, 16383, 16384, 16385, 65534, 65535, 65536} {
		if got, want := lay(t, 9, b[:n]), whole(9, b[:n]); !bytes.Equal(got, want) {
			t.Errorf("P3.1: Lay of %d bytes begins % x, want % x", n, got[:min(len(got), 12)], want[:min(len(want), 12)])
		}
	}
}

func TestLayRefusesMore(t *testing.T) {
	for _, n := range []int{api.MaxBody + 1, api.MaxBody + 2, 2 * api.MaxBody, 1 << 20} {
		if b, e := frame.Lay(1, make([]byte, n)); e != api.ErrLong || len(b) != 0 {
			t.Errorf("P3.1, R3: Lay of %d bytes: %d bytes, %d; want none, ErrLong", n, len(b), e)
		}
	}
}

func TestLayOfNothing(t *testing.T) {
	if a, b := lay(t, 7, nil), lay(t, 7, []byte{}); !bytes.Equal(a, b) || len(a) != 7 {
		t.Errorf("R5: Lay of nil % x, of an empty list % x", a, b)
	}
}

func TestLayLeavesWhatIsHandedIn(t *testing.T) {
	room := []byte("a body, and the room behind")
	first := lay(t, 3, room[:6])
	if string(room) != "a body, and the room behind" {
		t.Errorf("R6: Lay changed what was handed in: %q", room)
	}
	kept := bytes.Clone(first)
	room[0] = 'A'
	if !bytes.Equal(first, kept) {
		t.Error("R6: what Lay answered changed with what was handed in")
	}
	room[0] = 'a'
	again := lay(t, 3, room[:6])
	if !bytes.Equal(again, first) {
		t.Errorf("R8: Lay of the same: % x, then % x", first, again)
	}
	clear(first[:cap(first)])
	if string(room) != "a body, and the room behind" || !bytes.Equal(again, kept) {
		t.Error("R6: what Lay answers is no new memory")
	}
}
