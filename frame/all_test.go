package frame_test

import (
	"bytes"
	"testing"

	"outworker/api"
	"outworker/frame"
)

// hasAll: All answers these frames, and this size.
func hasAll(t *testing.T, b []byte, want []api.Frame, size int, why string) {
	t.Helper()
	got, n := frame.All(b)
	if len(got) != len(want) || n != size {
		t.Errorf("P3.2: All of %s: %d frames, size %d; want %d, %d", why, len(got), n, len(want), size)
		return
	}
	for i, f := range got {
		if f.Kind != want[i].Kind || !bytes.Equal(f.Body, want[i].Body) {
			t.Errorf("P3.2: All of %s: frame %d is kind %d, % x; want kind %d, % x", why, i, f.Kind, f.Body, want[i].Kind, want[i].Body)
		}
	}
}

// some: unlike frames, and their bytes one behind the other.
func some(t *testing.T) ([]api.Frame, []byte) {
	t.Helper()
	l := []api.Frame{{Kind: 1, Body: []byte("a")}, {Kind: 0}, {Kind: 255, Body: noise(1, 200)}, {Kind: 1, Body: []byte("a")}, {Kind: 0x6f, Body: []byte("ooo")}}
	var b []byte
	for _, f := range l {
		b = append(b, lay(t, f.Kind, f.Body)...)
	}
	return l, b
}

func TestAllOfNoFrame(t *testing.T) {
	hasAll(t, nil, nil, 0, "nil")
	hasAll(t, []byte{}, nil, 0, "nothing")
	hasAll(t, []byte{0x6f}, nil, 0, "6f")
	hasAll(t, []byte("no frame at all"), nil, 0, "other bytes")
	hasAll(t, join([]byte{0}, lay(t, 1, nil)), nil, 0, "a frame behind another byte")
}

func TestAllOfFramesCutAnywhere(t *testing.T) {
	l, b := some(t)
	hasAll(t, b, l, len(b), "frames")
	var ends []int
	at := 0
	for _, f := range l {
		at += len(lay(t, f.Kind, f.Body))
		ends = append(ends, at)
	}
	for i := range b {
		n, size := 0, 0
		for n < len(ends) && ends[n] <= i {
			size = ends[n]
			n++
		}
		hasAll(t, b[:i], l[:n], size, "frames cut off")
	}
}

func TestAllUpToTheFirstRefused(t *testing.T) {
	l, b := some(t)
	long := whole(2, make([]byte, api.MaxBody+1))
	sum := lay(t, 2, []byte("b"))
	sum[7] = 'c'
	for _, c := range []struct {
		why string
		b   []byte
	}{
		{"ErrShort", []byte{0x6f}},
		{"ErrMagic", []byte{0x70, 1, 0, 0, 0, 0, 0}},
		{"ErrForm", []byte{0x6f, 1, 0x80, 0, 0, 0, 0, 0}},
		{"ErrLong", long},
		{"ErrSum", sum},
	} {
		if c.why != "ErrShort" {
			hasAll(t, join(b, c.b, b), l, len(b), "frames, one with "+c.why+", and frames")
		}
		hasAll(t, join(b, c.b), l, len(b), "frames, and one with "+c.why)
		hasAll(t, c.b, nil, 0, "one with "+c.why)
	}
}

func TestAllOfManyAndOfLong(t *testing.T) {
	body := noise(8, api.MaxBody)
	long := lay(t, 4, body)
	hasAll(t, join(long, long, long, []byte{1}), []api.Frame{{Kind: 4, Body: body}, {Kind: 4, Body: body}, {Kind: 4, Body: body}}, 3*len(long), "long frames")
	const n = 100000
	got, size := frame.All(bytes.Repeat(lay(t, 5, nil), n))
	if len(got) != n || size != 7*n {
		t.Errorf("P3.2: All of %d empty frames: %d, size %d", n, len(got), size)
	}
}

func TestAllLeavesWhatIsHandedIn(t *testing.T) {
	l, b := some(t)
	room := join(b, lay(t, 9, nil))
	before := bytes.Clone(room)
	got, _ := frame.All(room[:len(b)])
	if !bytes.Equal(room, before) {
		t.Error("R6: All changed what was handed in")
	}
	clear(room)
	for i, f := range got {
		if !bytes.Equal(f.Body, l[i].Body) {
			t.Error("R6: what All answered changed with what was handed in")
		}
	}
	copy(room, before)
	for i, f := range got {
		clear(f.Body[:cap(f.Body)])
		for j := i + 1; j < len(got); j++ {
			if !bytes.Equal(got[j].Body, l[j].Body) {
				t.Error("R6: two bodies of one answer share memory")
			}
		}
	}
	if !bytes.Equal(room, before) {
		t.Error("R6: what All answers is no new memory")
	}
	hasAll(t, room[:len(b)], l, len(b), "the same once more (R8)")
}
