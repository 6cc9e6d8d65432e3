// Package bitio is layer 1; see shared/doc/01-bitio.md.
package bitio

import "tsblock/api"

// maxBits is the number of bits of a word.
const maxBits = 64

// position is a place in a sequence of bits, kept by the number of bits before it.
type position struct {
	at int
}

// Writer writes bits.
type Writer struct {
	position
	bytes []byte
}

// NewWriter returns a writer without bits.
func NewWriter() *Writer { return &Writer{} }

// Bits writes the lowest n bits of a word, the most significant one first.
func (w *Writer) Bits(x uint64, n int) api.Errno {
	if w == nil {
		return api.ErrNil
	}
	if n < 0 || n > maxBits {
		return api.ErrArg
	}
	for i := range n {
		w.push(byte(x>>(n-1-i)) & 1)
	}
	return api.OK
}

// push relies on the bits after the position being 0, as they are in a byte just appended.
func (w *Writer) push(bit byte) {
	if w.at%8 == 0 {
		w.bytes = append(w.bytes, 0)
	}
	w.bytes[w.at/8] |= bit << shift(w.at)
	w.at++
}

// Len returns the number of bits written.
func (w *Writer) Len() int {
	if w == nil {
		return 0
	}
	return w.at
}

// Bytes returns the bits, padded to bytes.
func (w *Writer) Bytes() []byte {
	if w == nil {
		return nil
	}
	return clone(w.bytes)
}

// Reader reads bits.
type Reader struct {
	position
	bytes []byte
}

// NewReader returns a reader of the bits of a copy of some bytes.
func NewReader(b []byte) *Reader { return &Reader{bytes: clone(b)} }

// Bits reads n bits, the most significant one first.
func (r *Reader) Bits(n int) (uint64, api.Errno) {
	if r == nil {
		return 0, api.ErrNil
	}
	if n < 0 || n > maxBits {
		return 0, api.ErrArg
	}
	if n > r.Left() {
		return 0, api.ErrEOF
	}
	x := uint64(0)
	for i := range n {
		x = x<<1 | uint64(r.peek(i))
	}
	r.at += n
	return x, api.OK
}

// peek returns the bit that follows the next i bits; there must be one.
func (r *Reader) peek(i int) byte {
	at := r.at + i
	return r.bytes[at/8] >> shift(at) & 1
}

// Left returns the number of bits that remain.
func (r *Reader) Left() int {
	if r == nil {
		return 0
	}
	return 8*len(r.bytes) - r.at
}

// End checks that only padding remains.
func (r *Reader) End() api.Errno {
	if r == nil {
		return api.ErrNil
	}
	left := r.Left()
	if left >= 8 {
		return api.ErrTrailing
	}
	for i := range left {
		if r.peek(i) != 0 {
			return api.ErrTrailing
		}
	}
	return api.OK
}

// shift returns by how many bits the bit number at lies above the lowest bit of its byte.
func shift(at int) int { return 7 - at%8 }

func clone(b []byte) []byte { return append([]byte(nil), b...) }
