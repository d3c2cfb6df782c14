// Package wire: numbers as bytes: see ../shared/doc/01-wire.md.
package wire

import (
	"slices"

	"pledge/api"
)

// The form of a number: seven bits a byte, as many bytes as 64 bits ask for at most, of which the last has one bit left.
const (
	bits    = 7
	more    = 1 << bits
	longest = 10
	top     = 1
)

// Put is b, in new memory, and behind it each of l.
func Put(b []byte, l ...int64) []byte {
	out := make([]byte, 0, len(b)+len(l))
	out = append(out, b...)
	for _, n := range l {
		out = appendNumber(out, zigzag(n))
	}
	return out
}

func appendNumber(b []byte, u uint64) []byte {
	for u >= more {
		b = append(b, byte(u)|more)
		u >>= bits
	}
	return append(b, byte(u))
}

// zigzag: the sign goes into the lowest bit, so that numbers near 0 are short on both sides.
func zigzag(n int64) uint64 { return uint64(n)<<1 ^ uint64(n>>63) }

func unzigzag(u uint64) int64 { return int64(u>>1) ^ -int64(u&1) }

// Reader reads numbers from bytes, one behind the other, until its first error.
type Reader struct {
	b   []byte
	at  int
	err error
}

// NewReader is a reader of a copy of b, at its beginning.
func NewReader(b []byte) *Reader { return &Reader{b: slices.Clone(b)} }

// Num is the next number, if it is from low to high.
func (r *Reader) Num(low, high int64) int64 {
	if r.err != nil {
		return 0
	}
	n, size, err := first(r.b[r.at:])
	if err == nil && (n < low || n > high) {
		err = api.ErrRange
	}
	if err != nil {
		r.err = &api.At{Pos: r.at, Err: err}
		return 0
	}
	r.at += size
	return n
}

// first is the number at b's beginning, and how many bytes it has.
func first(b []byte) (int64, int, error) {
	var u uint64
	for i := 0; ; i++ { // at the latest the tenth byte ends the number, or is refused
		if i == len(b) {
			return 0, 0, api.ErrEnd
		}
		c := b[i]
		if i == longest-1 && c > top || i > 0 && c == 0 {
			return 0, 0, api.ErrShape
		}
		u |= uint64(c%more) << (bits * i)
		if c < more {
			return unzigzag(u), i + 1, nil
		}
	}
}

// Bool is whether the next number, 0 or 1, is 1.
func (r *Reader) Bool() bool { return r.Num(0, 1) == 1 }

// At is the place of the next number; behind an error, that of the one that could not be read.
func (r *Reader) At() int { return r.at }

// Left is how many bytes are still to be read: behind an error none is.
func (r *Reader) Left() int {
	if r.err != nil {
		return 0
	}
	return len(r.b) - r.at
}

// Err is the first error, or nil.
func (r *Reader) Err() error { return r.err }
