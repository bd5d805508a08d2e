package crc_test

import (
	"bytes"
	"hash/crc32"
	"math/rand"
	"testing"

	"outworker/crc"
)

// noise: so many bytes, the same in each run.
func noise(seed int64, n int) []byte {
	b := make([]byte, n)
	rand.New(rand.NewSource(seed)).Read(b)
	return b
}

func TestSumWritten(t *testing.T) {
	for _, c := range []struct {
		b    string
		want uint32
	}{
		{"", 0},
		{"123456789", 0xcbf43926},
		{"\x00", 0xd202ef8d},
		{"\xff", 0xff000000},
		{"a", 0xe8b7be43},
		{"abc", 0x352441c2},
		{"\x00\x00\x00\x00", 0x2144df1c},
		{"\xff\xff\xff\xff", 0xffffffff},
	} {
		if got := crc.Sum([]byte(c.b)); got != c.want {
			t.Errorf("P2.1: Sum of %q: %08x, want %08x", c.b, got, c.want)
		}
	}
}

func TestSumOfNothing(t *testing.T) {
	for name, got := range map[string]uint32{
		"no part":       crc.Sum(),
		"no parts":      crc.Sum([][]byte{}...),
		"nil parts":     crc.Sum([][]byte(nil)...),
		"a nil part":    crc.Sum(nil),
		"an empty part": crc.Sum([]byte{}),
		"empty parts":   crc.Sum(nil, []byte{}, nil),
	} {
		if got != 0 {
			t.Errorf("P2.1, R5: Sum of %s: %08x, want 0", name, got)
		}
	}
}

func TestSumOfEachByte(t *testing.T) {
	for c := range 256 {
		for _, b := range [][]byte{{byte(c)}, {byte(c), 0}, {0, byte(c)}, {byte(c), 0xff}} {
			if got, want := crc.Sum(b), crc32.ChecksumIEEE(b); got != want {
				t.Errorf("P2.1: Sum of % x: %08x, want %08x", b, got, want)
			}
		}
	}
}

func TestSumOfManyLengths(t *testing.T) {
	b := noise(2, 70000)
	for n := range 300 {
		if got, want := crc.Sum(b[:n]), crc32.ChecksumIEEE(b[:n]); got != want {
			t.Errorf("P2.1: Sum of %d bytes: %08x, want %08x", n, got, want)
		}
	}
	if got, want := crc.Sum(b), crc32.ChecksumIEEE(b); got != want {
		t.Errorf("P2.1: Sum of %d bytes: %08x, want %08x", len(b), got, want)
	}
}

func TestSumOfParts(t *testing.T) {
	b := noise(3, 40)
	want := crc32.ChecksumIEEE(b)
	for i := range len(b) + 1 {
		for j := i; j <= len(b); j++ {
			if got := crc.Sum(b[:i], b[i:j], b[j:]); got != want {
				t.Errorf("P2.1: Sum of parts cut at %d and %d: %08x, want %08x", i, j, got, want)
			}
		}
	}
	var single [][]byte
	for i := range b {
		single = append(single, nil, b[i:i+1], []byte{})
	}
	if got := crc.Sum(single...); got != want {
		t.Errorf("P2.1: Sum of parts of one byte, empty ones between: %08x, want %08x", got, want)
	}
}

func TestSumHangsOnOrder(t *testing.T) {
	if crc.Sum([]byte("a"), []byte("b")) == crc.Sum([]byte("b"), []byte("a")) {
		t.Error("P2.1: parts turned round have one sum")
	}
}

// change: b with the bits of mask turned, from bit at on, each byte's lowest first.
func change(b []byte, at int, mask uint32) []byte {
	out := bytes.Clone(b)
	for i := range 32 {
		if mask>>i&1 == 1 {
			out[(at+i)/8] ^= 1 << ((at + i) % 8)
		}
	}
	return out
}

func TestSumTellsBursts(t *testing.T) {
	source := rand.New(rand.NewSource(4))
	for _, b := range [][]byte{make([]byte, 12), bytes.Repeat([]byte{0xff}, 12), noise(5, 12), noise(6, 64)} {
		whole := crc.Sum(b)
		for at := range len(b)*8 - 31 {
			masks := []uint32{0xffffffff, 0x80000001, 0xedb88320, 0x04c11db7, 0xdb710641}
			for i := range 32 {
				masks = append(masks, 1<<i)
			}
			for range 50 {
				masks = append(masks, source.Uint32()|1)
			}
			for _, m := range masks {
				if crc.Sum(change(b, at, m)) == whole {
					t.Errorf("P2.2: % x has one sum with bits %08x turned from bit %d on", b, m, at)
				}
			}
		}
	}
}

func TestSumTellsShortBursts(t *testing.T) {
	for n := 1; n < 4; n++ {
		b := noise(7, n)
		for mask := uint32(1); mask < 1<<min(8*n, 16); mask++ {
			if crc.Sum(change(b, 8*n-min(8*n, 16), mask)) == crc.Sum(b) {
				t.Errorf("P2.2: % x has one sum with bits %08x turned", b, mask)
			}
		}
	}
}

func TestSumTellsAllOfFourBytes(t *testing.T) {
	// What turning bits does to a sum is the exclusive-or of what each bit does alone: all four bytes have unlike sums just if those 32 are independent.
	zero := crc.Sum(make([]byte, 4))
	var rows []uint32
	for i := range 32 {
		rows = append(rows, crc.Sum(change(make([]byte, 4), 0, 1<<i))^zero)
	}
	for bit := range 32 {
		pivot := -1
		for i := bit; i < 32; i++ {
			if rows[i]>>bit&1 == 1 {
				pivot = i
				break
			}
		}
		if pivot < 0 {
			t.Fatal("P2.2: two lists of four bytes have one sum")
		}
		rows[bit], rows[pivot] = rows[pivot], rows[bit]
		for i := range rows {
			if i != bit && rows[i]>>bit&1 == 1 {
				rows[i] ^= rows[bit]
			}
		}
	}
}

func TestSumLeavesWhatIsHandedIn(t *testing.T) {
	whole := []byte("one part, another, and the room behind")
	parts := [][]byte{whole[:8], nil, whole[8:17]}
	first := crc.Sum(parts...)
	if string(whole) != "one part, another, and the room behind" || string(parts[0]) != "one part" || parts[1] != nil || string(parts[2]) != ", another" {
		t.Errorf("R6: Sum changed what was handed in: %q %q", whole, parts)
	}
	if again := crc.Sum(parts...); again != first {
		t.Errorf("R8: Sum of the same parts: %08x, then %08x", first, again)
	}
	if want := crc32.ChecksumIEEE(whole[:17]); first != want {
		t.Errorf("P2.1: Sum read the room behind a part: %08x, want %08x", first, want)
	}
	whole[0] = 'O'
	if got, want := crc.Sum(parts...), crc32.ChecksumIEEE(whole[:17]); got != want {
		t.Errorf("R6: Sum kept what was handed in: %08x, want %08x", got, want)
	}
}
