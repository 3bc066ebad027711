// Package wire is layer 1: see shared/doc/01-wire.md.
package wire

import (
	"slices"

	"rolodex/api"
)

const (
	blockSize = 256
	mostU8    = 1<<8 - 1
	mostU16   = 1<<16 - 1
)

// block is never changed once it is filled, so that copies of a writer may share it.
type block struct {
	before *block
	bytes  [blockSize]byte
}

// Writer puts fields one behind the other. Its tail is an array and no slice: a copy of a
// writer has a tail of its own, and neither of the two hangs on the other.
type Writer struct {
	full    *block
	tail    [blockSize]byte
	size    int
	spoiled bool
}

// U8 puts a number of one byte.
func (w *Writer) U8(x int) {
	w.upTo(mostU8, x, 1)
}

// U16 puts a number of two bytes.
func (w *Writer) U16(x int) {
	w.upTo(mostU16, x, 2)
}

// U32 puts a number of four bytes.
func (w *Writer) U32(x uint32) {
	w.number(uint64(x), 4)
}

// U64 puts a number of eight bytes.
func (w *Writer) U64(x uint64) {
	w.number(x, 8)
}

// Flag puts one byte, 1 or 0.
func (w *Writer) Flag(b bool) {
	if b {
		w.put(1)
		return
	}
	w.put(0)
}

// Plain puts the bytes as they are.
func (w *Writer) Plain(b []byte) {
	w.put(b...)
}

// String puts how many bytes there are, and they.
func (w *Writer) String(b []byte) {
	if len(b) > api.MaxBytes {
		w.spoil()
		return
	}
	w.number(uint64(len(b)), 2)
	w.put(b...)
}

// Count puts how many items a list has.
func (w *Writer) Count(n int) {
	w.upTo(api.MaxCount, n, 2)
}

// Out answers all bytes that were put.
func (w *Writer) Out() ([]byte, api.Errno) {
	if w == nil {
		return nil, api.ErrArg
	}
	if w.spoiled {
		return nil, api.ErrRange
	}
	out := make([]byte, w.size)
	at := w.size - w.size%blockSize
	copy(out[at:], w.tail[:])
	for b := w.full; b != nil; b = b.before {
		at -= blockSize
		copy(out[at:], b.bytes[:])
	}
	return out, api.OK
}

// upTo puts x, if it is from 0 to most.
func (w *Writer) upTo(most, x, size int) {
	if x < 0 || x > most {
		w.spoil()
		return
	}
	w.number(uint64(x), size)
}

// number puts the size last bytes of x, the most significant first.
func (w *Writer) number(x uint64, size int) {
	for i := size - 1; i >= 0; i-- {
		w.put(byte(x >> (8 * i)))
	}
}

func (w *Writer) put(b ...byte) {
	if w == nil || w.spoiled {
		return
	}
	for _, x := range b {
		w.tail[w.size%blockSize] = x
		w.size++
		if w.size%blockSize == 0 {
			w.full = &block{before: w.full, bytes: w.tail}
		}
	}
}

// spoil lets go of the bytes: no call asks for them any more.
func (w *Writer) spoil() {
	if w != nil {
		*w = Writer{spoiled: true}
	}
}

// Reader takes fields from the front of what is left.
type Reader struct {
	left   []byte
	failed bool
}

// New answers a reader of b's bytes.
func New(b []byte) *Reader {
	return &Reader{left: slices.Clone(b)}
}

// U8 takes a number of one byte.
func (r *Reader) U8() int {
	return int(r.number(1, mostU8))
}

// U16 takes a number of two bytes.
func (r *Reader) U16() int {
	return int(r.number(2, mostU16))
}

// U32 takes a number of four bytes.
func (r *Reader) U32() uint32 {
	return uint32(r.number(4, 1<<32-1))
}

// U64 takes a number of eight bytes.
func (r *Reader) U64() uint64 {
	return r.number(8, 1<<64-1)
}

// Flag takes one byte, 1 or 0.
func (r *Reader) Flag() bool {
	return r.number(1, 1) == 1
}

// Plain takes n bytes as they are.
func (r *Reader) Plain(n int) []byte {
	if r.Fails() {
		return nil
	}
	if n < 0 || n > len(r.left) {
		r.fail()
		return nil
	}
	b := slices.Clone(r.left[:n])
	r.left = r.left[n:]
	return b
}

// String takes how many bytes there are, and they. A copy of the reader goes ahead, so that
// a string whose number is there, but not its bytes, takes nothing.
func (r *Reader) String(most int) []byte {
	if r.Fails() {
		return nil
	}
	ahead := *r
	n := ahead.U16()
	b := ahead.Plain(n)
	if ahead.failed || n > min(most, api.MaxBytes) {
		r.fail()
		return nil
	}
	*r = ahead
	return b
}

// Count takes how many items a list has.
func (r *Reader) Count(most int) int {
	if most < 0 {
		r.fail()
		return 0
	}
	return int(r.number(2, uint64(min(most, api.MaxCount))))
}

// Left answers how many bytes are left.
func (r *Reader) Left() int {
	if r == nil {
		return 0
	}
	return len(r.left)
}

// Fails tells whether the reader failed.
func (r *Reader) Fails() bool {
	return r == nil || r.failed
}

// Done tells whether all was taken, and all was right.
func (r *Reader) Done() bool {
	return !r.Fails() && len(r.left) == 0
}

// number takes a number of size bytes, if it is at most most.
func (r *Reader) number(size int, most uint64) uint64 {
	if r.Fails() {
		return 0
	}
	if size > len(r.left) {
		r.fail()
		return 0
	}
	var x uint64
	for _, b := range r.left[:size] {
		x = x<<8 | uint64(b)
	}
	if x > most {
		r.fail()
		return 0
	}
	r.left = r.left[size:]
	return x
}

func (r *Reader) fail() {
	if r != nil {
		r.failed = true
	}
}
