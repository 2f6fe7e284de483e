// Package wire: numbers as bytes: see ../shared/doc/01-wire.md.
package wire

import (
	"turnkey/api"
)

// lastByte is the place of the last byte that a number of 64 bits may have.
const lastByte = 9

// Put answers b, in new memory, and each of l behind it as a zig-zag number.
func Put(b []byte, l ...int64) []byte {
	out := make([]byte, 0, len(b)+len(l))
	out = append(out, b...)
	for _, n := range l {
		out = putOne(out, uint64(n)<<1^uint64(n>>63))
	}
	return out
}

func putOne(b []byte, u uint64) []byte {
	for u >= 128 {
		b = append(b, byte(u)|128)
		u >>= 7
	}
	return append(b, byte(u))
}

// Reader reads numbers from bytes, until its first error.
type Reader struct {
	b   []byte
	at  int
	err error
}

// NewReader reads from b's beginning; b itself isn't kept.
func NewReader(b []byte) *Reader {
	own := make([]byte, len(b))
	copy(own, b)
	return &Reader{b: own}
}

// Num reads a number that has to be from low to high.
func (r *Reader) Num(low, high int64) int64 {
	if r.err != nil {
		return 0
	}
	u, size, err := parse(r.b[r.at:])
	n := int64(u>>1) ^ -int64(u&1)
	if err == nil && (n < low || n > high) {
		err = api.ErrRange
	}
	if err != nil {
		r.err = &api.At{Pos: r.at, Err: err}
		return 0
	}
	r.at += size
	return n
}

// parse reads one number of seven bits a byte, and tells how many bytes it has.
func parse(b []byte) (uint64, int, error) {
	var u uint64
	for i, x := range b {
		if i == lastByte && x > 1 || i > 0 && x == 0 {
			return 0, 0, api.ErrShape
		}
		u |= uint64(x&127) << (7 * i)
		if x < 128 {
			return u, i + 1, nil
		}
	}
	return 0, 0, api.ErrEnd
}

// Bool reads a number that has to be 0 or 1.
func (r *Reader) Bool() bool { return r.Num(0, 1) == 1 }

// At is the place of what comes next, or where what was met with an error begins.
func (r *Reader) At() int { return r.at }

// Left is how many bytes stand from At on.
func (r *Reader) Left() int { return len(r.b) - r.at }

// Err is the first error, if there was one.
func (r *Reader) Err() error { return r.err }
