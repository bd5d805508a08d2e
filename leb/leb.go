// Package leb is layer 1: numbers as few bytes: see shared/doc/01-leb.md.
package leb

import "outworker/api"

const (
	more    = 0x80 // set in each byte of a number but its last
	perByte = 7    // bits of the number in a byte
	longest = 10   // bytes of the greatest number
	topByte = 1    // all that 64 bits leave for the last of the longest
)

// Put: a number behind bytes, seven bits a byte, the lowest first; each but the last has its highest bit.
func Put(b []byte, n uint64) []byte {
	// A plain append could write into the spare room behind b, which is the caller's.
	out := make([]byte, len(b), len(b)+longest)
	copy(out, b)
	for n >= more {
		out = append(out, byte(n)|more)
		n >>= perByte
	}
	return append(out, byte(n))
}

// PutInt: a number that may be below 0.
func PutInt(b []byte, n int64) []byte {
	if n < 0 {
		// -2n - 1 without leaving 64 bits at the least number: -n - 1 is ^n.
		return Put(b, uint64(^n)<<1|1)
	}
	return Put(b, uint64(n)<<1)
}

// Reader takes numbers; its first fault stays.
type Reader struct {
	rest []byte
	code api.Errno
}

// New: of bytes.
func New(b []byte) *Reader {
	// A copy, so that what becomes of b later isn't read.
	rest := make([]byte, len(b))
	copy(rest, b)
	return &Reader{rest: rest}
}

// Fail: a fault, if there was none.
func (r *Reader) Fail(code api.Errno) {
	if r.code == api.OK {
		r.code = code
	}
}

// Num: a number, in as few bytes as may be.
func (r *Reader) Num() uint64 {
	if r.code != api.OK {
		return 0
	}
	n, size, e := number(r.rest)
	if e != api.OK {
		r.Fail(e)
		return 0
	}
	r.rest = r.rest[size:]
	return n
}

// number: the number at the front of b, and how many bytes it has.
func number(b []byte) (uint64, int, api.Errno) {
	var n uint64
	for i, c := range b {
		// A last byte 0 adds nothing: the number could be had in fewer bytes.
		if i == longest-1 && c > topByte || i > 0 && c == 0 {
			return 0, 0, api.ErrForm
		}
		n |= uint64(c&^more) << (perByte * i)
		if c < more {
			return n, i + 1, api.OK
		}
	}
	return 0, 0, api.ErrShort
}

// Int: a number that may be below 0.
func (r *Reader) Int() int64 {
	n := r.Num()
	if n&1 == 1 {
		return ^int64(n >> 1)
	}
	return int64(n >> 1)
}

// Below: a number below a limit.
func (r *Reader) Below(limit int) int {
	// Behind a fault n is 0, and the first fault stays whatever limit is.
	n := r.Num()
	if limit <= 0 || n >= uint64(limit) {
		r.Fail(api.ErrRange)
		return 0
	}
	return int(n)
}

// Bytes: so many.
func (r *Reader) Bytes(n int) []byte {
	if r.code != api.OK {
		return nil
	}
	if n < 0 || n > len(r.rest) {
		r.Fail(api.ErrShort)
		return nil
	}
	// A copy, so that the caller can't change what is read next.
	out := make([]byte, n)
	copy(out, r.rest)
	r.rest = r.rest[n:]
	return out
}

// Left: how many bytes are left.
func (r *Reader) Left() int { return len(r.rest) }

// Code: the fault so far.
func (r *Reader) Code() api.Errno { return r.code }

// End: the fault; ErrRest, if there was none, and bytes are left.
func (r *Reader) End() api.Errno {
	if len(r.rest) > 0 {
		r.Fail(api.ErrRest)
	}
	return r.code
}
