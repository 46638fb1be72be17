// Package bits writes and reads unsigned integers as bit fields, most
// significant bit first. It is layer 1: see shared/doc/01-bits.md.
package bits

import "lineside/api"

const maxWidth = 32

// Writer holds the bits that were put into it. The zero value holds none.
//
// The bytes are an array, so that a Writer that is copied shares nothing with
// the original.
type Writer struct {
	bytes [api.MaxBits / 8]byte
	held  int
}

// Put appends the width low-order bits of n.
func (w *Writer) Put(n, width int) api.Errno {
	if !widthFits(width) || n < 0 || n > 1<<width-1 {
		return api.ErrArg
	}
	if w == nil || w.held+width > api.MaxBits {
		return api.ErrLong
	}
	for shift := width - 1; shift >= 0; shift-- {
		w.bytes[w.held/8] |= byte(n>>shift&1) << bitShift(w.held)
		w.held++
	}
	return api.OK
}

// Len returns the number of bits held.
func (w *Writer) Len() int {
	if w == nil {
		return 0
	}
	return w.held
}

// Bytes returns the bits held, the last byte filled up with zeros.
func (w *Writer) Bytes() []byte {
	if w == nil {
		return nil
	}
	out := make([]byte, (w.held+7)/8)
	copy(out, w.bytes[:])
	return out
}

// Reader is a position in a sequence of bits. The zero value has no bits.
type Reader struct {
	bytes []byte
	at    int
}

// Read returns a Reader before the first bit of b.
func Read(b []byte) *Reader {
	own := make([]byte, len(b))
	copy(own, b)
	return &Reader{bytes: own}
}

// Get consumes the next width bits and returns the integer that they form.
func (r *Reader) Get(width int) (int, api.Errno) {
	if !widthFits(width) {
		return 0, api.ErrArg
	}
	if r.Left() < width {
		return 0, api.ErrShort
	}
	n := 0
	for range width {
		n = n<<1 | int(r.bytes[r.at/8]>>bitShift(r.at)&1)
		r.at++
	}
	return n, api.OK
}

// Left returns the number of bits that remain.
func (r *Reader) Left() int {
	if r == nil {
		return 0
	}
	return 8*len(r.bytes) - r.at
}

// At returns the number of bits consumed so far.
func (r *Reader) At() int {
	if r == nil {
		return 0
	}
	return r.at
}

func widthFits(width int) bool { return 1 <= width && width <= maxWidth }

// bitShift returns how far the bit at position at lies above the lowest bit of
// its byte.
func bitShift(at int) int { return 7 - at%8 }
