package frame_test

import (
	"bytes"
	"encoding/binary"
	"math/rand"
	"testing"

	"outworker/api"
	"outworker/frame"
)

// refused: Take answers this error, and zero values beside it.
func refused(t *testing.T, b []byte, want api.Errno, why string) {
	t.Helper()
	kind, body, size, e := frame.Take(b)
	if e != want {
		t.Errorf("P3.2: Take of %s: %d, want %d", why, e, want)
	}
	if kind != 0 || len(body) != 0 || size != 0 {
		t.Errorf("R3: Take of %s: %d, % x, %d beside an error", why, kind, body, size)
	}
}

// taken: Take answers this frame.
func taken(t *testing.T, b []byte, kind uint8, body []byte, size int, why string) {
	t.Helper()
	k, got, n, e := frame.Take(b)
	if e != api.OK || k != kind || !bytes.Equal(got, body) || n != size {
		t.Errorf("P3.2: Take of %s: kind %d, %d bytes, size %d, %d; want kind %d, %d bytes, size %d", why, k, len(got), n, e, kind, len(body), size)
	}
}

// join: bytes one behind the other, in new memory.
func join(parts ...[]byte) []byte { return bytes.Join(parts, nil) }

func TestTakeOfWhatIsLaid(t *testing.T) {
	b := noise(2, api.MaxBody)
	for _, n := range []int{0, 1, 2, 5, 127, 128, 129, 16383, 16384, 65535, 65536} {
		for _, kind := range []uint8{0, 1, 0x6f, 0x80, 255} {
			f := lay(t, kind, b[:n])
			taken(t, f, kind, b[:n], len(f), "a frame alone")
			taken(t, join(f, []byte{0}), kind, b[:n], len(f), "a frame, and a byte behind it")
			taken(t, join(f, f), kind, b[:n], len(f), "a frame, and another behind it")
			taken(t, join(f, b[:300]), kind, b[:n], len(f), "a frame, and others behind it")
		}
	}
}

func TestTakeOfWhatIsWritten(t *testing.T) {
	taken(t, []byte("\x6f\x01\x01\x70\x72\x77\x62\x61"), 1, []byte("a"), 8, "the example")
	taken(t, []byte("\x6f\x00\x00\x8d\xef\x02\xd2"), 0, nil, 7, "an empty frame")
	taken(t, []byte("\x6f\x6f\x02\xae\x5e\xa2\x83\x6f\x6f\x6f"), 0x6f, []byte("oo"), 9, "a frame of 6f alone")
}

func TestTakeOfFewBytes(t *testing.T) {
	refused(t, nil, api.ErrShort, "nil")
	refused(t, []byte{}, api.ErrShort, "nothing")
	for c := range 256 {
		refused(t, []byte{byte(c)}, api.ErrShort, "one byte")
	}
	refused(t, []byte{0x6f, 1}, api.ErrShort, "6f and a kind")
}

func TestTakeOfAnotherFirstByte(t *testing.T) {
	f := lay(t, 1, []byte("a"))
	for c := range 256 {
		if c == 0x6f {
			continue
		}
		f[0] = byte(c)
		refused(t, f, api.ErrMagic, "another first byte")
		refused(t, f[:2], api.ErrMagic, "another first byte, and no more than the kind")
		refused(t, []byte{byte(c), 1, 0x80, 0}, api.ErrMagic, "another first byte, and no right number")
	}
}

func TestTakeOfBadNumbers(t *testing.T) {
	nines := bytes.Repeat([]byte{0xff}, 9)
	tail := noise(3, 40)
	for _, c := range []struct {
		why    string
		length []byte
		want   api.Errno
	}{
		{"a number of two bytes where one would do", []byte{0x81, 0}, api.ErrForm},
		{"0 in two bytes", []byte{0x80, 0}, api.ErrForm},
		{"0 in ten bytes", join(bytes.Repeat([]byte{0x80}, 9), []byte{0}), api.ErrForm},
		{"a number beyond 64 bits", join(nines, []byte{2}), api.ErrForm},
		{"ten bytes that go on", join(nines, []byte{0xff}), api.ErrForm},
		{"ten bytes that go on, but for their size", join(nines, []byte{0x81}), api.ErrForm},
		{"the greatest number", join(nines, []byte{1}), api.ErrLong},
		{"2^63", join(bytes.Repeat([]byte{0x80}, 9), []byte{1}), api.ErrLong},
		{"2^63 - 1", join(nines[:8], []byte{0x7f}), api.ErrLong},
		{"2^32", binary.AppendUvarint(nil, 1<<32), api.ErrLong},
		{"2^32 + 1", binary.AppendUvarint(nil, 1<<32+1), api.ErrLong},
		{"65537", binary.AppendUvarint(nil, api.MaxBody+1), api.ErrLong},
		{"65538", binary.AppendUvarint(nil, api.MaxBody+2), api.ErrLong},
	} {
		refused(t, join([]byte{0x6f, 1}, c.length), c.want, c.why)
		refused(t, join([]byte{0x6f, 1}, c.length, tail), c.want, c.why+", and bytes behind it")
		refused(t, byHand(1, c.length, []byte("a")), c.want, c.why+", and a right sum behind it")
	}
}

func TestTakeOfNumbersCutOff(t *testing.T) {
	for n := range 10 {
		refused(t, join([]byte{0x6f, 1}, bytes.Repeat([]byte{0xff}, n)), api.ErrShort, "a number cut off")
		refused(t, join([]byte{0x6f, 1}, bytes.Repeat([]byte{0x80}, n)), api.ErrShort, "a number cut off")
	}
}

func TestTakeOfMoreThanMayBeLaid(t *testing.T) {
	b := noise(4, api.MaxBody+1)
	taken(t, whole(1, b[:api.MaxBody]), 1, b[:api.MaxBody], 2+3+4+api.MaxBody, "65536 bytes")
	refused(t, whole(1, b), api.ErrLong, "65537 bytes with their sum")
	refused(t, whole(1, b)[:5], api.ErrLong, "65537 bytes that aren't there")
}

func TestTakeOfFramesCutOff(t *testing.T) {
	for _, n := range []int{0, 1, 2, 3, 4, 5, 127, 128, 300} {
		f := lay(t, 6, noise(5, n))
		for i := range f {
			refused(t, f[:i:i], api.ErrShort, "a frame cut off")
			// What stands in the room behind isn't there.
			refused(t, f[:i], api.ErrShort, "a frame cut off, its rest in the room behind")
		}
	}
	f := lay(t, 6, noise(5, api.MaxBody))
	for _, i := range []int{1, 2, 4, 5, 8, 9, 10, len(f) - 5, len(f) - 4, len(f) - 1} {
		refused(t, f[:i], api.ErrShort, "a long frame cut off")
	}
}

func TestTakeOfShortFramesWithBadSums(t *testing.T) {
	// The bytes that are missing are told ahead of the sum.
	refused(t, []byte{0x6f, 1, 0, 1, 2, 3}, api.ErrShort, "three bytes of a sum that isn't right")
	refused(t, []byte{0x6f, 1, 2, 1, 2, 3, 4, 5}, api.ErrShort, "one byte of two, and a sum that isn't right")
	refused(t, []byte{0x6f, 1, 0, 1, 2, 3, 4}, api.ErrSum, "a sum that isn't right, of nothing")
	refused(t, []byte{0x6f, 1, 2, 1, 2, 3, 4, 5, 6}, api.ErrSum, "a sum that isn't right")
}

func TestTakeOfChangedBits(t *testing.T) {
	for _, body := range [][]byte{nil, {0}, []byte("a"), []byte("a longer body"), noise(6, 200)} {
		f := lay(t, 1, body)
		from := len(f) - len(body) - 4
		for i := range f {
			if i > 1 && i < from {
				continue // the length: what that leads to stands elsewhere
			}
			for bit := range 8 {
				f[i] ^= 1 << bit
				want := api.ErrSum
				if i == 0 {
					want = api.ErrMagic
				}
				refused(t, f, want, "a frame with one bit changed")
				f[i] ^= 1 << bit
			}
		}
	}
}

func TestTakeOfSumsTurnedRound(t *testing.T) {
	for _, body := range [][]byte{[]byte("a"), []byte("bc"), nil} {
		f := lay(t, 1, body)
		sum := f[3:7]
		sum[0], sum[1], sum[2], sum[3] = sum[3], sum[2], sum[1], sum[0]
		refused(t, f, api.ErrSum, "a sum with its highest byte first")
	}
	f := lay(t, 1, []byte("ab"))
	f[1], f[7] = f[7], f[1]
	refused(t, f, api.ErrSum, "a kind changed for a byte")
}

func TestTakeOfOtherLengths(t *testing.T) {
	f := lay(t, 1, []byte("abcd"))
	for n := range 4 {
		f[2] = byte(n)
		refused(t, f, api.ErrSum, "a frame that says fewer bytes than were laid")
	}
	for n := 5; n < 128; n++ {
		f[2] = byte(n)
		refused(t, f, api.ErrShort, "a frame that says more bytes than are there")
	}
}

func TestTakeOfNoise(t *testing.T) {
	source := rand.New(rand.NewSource(7))
	for range 20000 {
		b := make([]byte, source.Intn(24))
		source.Read(b)
		if len(b) > 2 && source.Intn(2) == 0 {
			b[0], b[2] = 0x6f, b[2]&15
		}
		kind, body, size, e := frame.Take(b)
		if e != api.OK {
			if kind != 0 || len(body) != 0 || size != 0 {
				t.Fatalf("R3: Take of % x: %d, % x, %d beside %d", b, kind, body, size, e)
			}
			continue
		}
		if !bytes.Equal(whole(kind, body), b[:size]) {
			t.Fatalf("P3.2: Take of % x: kind %d, % x, size %d", b, kind, body, size)
		}
	}
}

func TestTakeLeavesWhatIsHandedIn(t *testing.T) {
	room := join(lay(t, 3, []byte("a body")), []byte("and the room behind"))
	before := bytes.Clone(room)
	size := len(room) - len("and the room behind")
	_, body, _, _ := frame.Take(room[:size])
	if !bytes.Equal(room, before) {
		t.Errorf("R6: Take changed what was handed in: % x", room)
	}
	_, again, _, _ := frame.Take(room[:size])
	clear(room)
	if string(body) != "a body" {
		t.Error("R6: what Take answered changed with what was handed in")
	}
	copy(room, before)
	clear(body[:cap(body)])
	if !bytes.Equal(room, before) || string(again) != "a body" {
		t.Error("R6: what Take answers is no new memory")
	}
	taken(t, room[:size], 3, []byte("a body"), size, "the same once more (R8)")
}
