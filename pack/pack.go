// Package pack is layer 2: see shared/doc/02-pack.md.
package pack

import (
	"math/bits"

	"bellows/api"
)

// number is what is put in bytes; the one of 16 bits is a text's length alone.
type number interface{ uint16 | uint32 | uint64 }

const maxText = 1<<16 - 1

// U32 adds a number.
func U32(b []byte, n uint32) []byte { return put(withRoom(b, width[uint32]()), n) }

// U64 adds one.
func U64(b []byte, n uint64) []byte { return put(withRoom(b, width[uint64]()), n) }

// Text adds a text.
func Text(b []byte, s string) ([]byte, api.Errno) {
	if len(s) > maxText {
		return nil, api.ErrLong
	}
	head := put(withRoom(b, width[uint16]()+len(s)), uint16(len(s)))
	return append(head, s...), api.OK
}

// withRoom is a copy of b: the room behind b's own end may be another list's, so nothing may be put there.
func withRoom(b []byte, room int) []byte {
	own := make([]byte, len(b), len(b)+room)
	copy(own, b)
	return own
}

// width tells how many bytes a number has.
func width[T number]() int { return bits.Len64(uint64(^T(0))) / 8 }

func put[T number](b []byte, n T) []byte {
	for i := range width[T]() {
		b = append(b, byte(n>>(8*i)))
	}
	return b
}

// Reader reads bytes.
type Reader struct {
	rest  []byte
	short bool
}

// New reads bytes from their beginning on.
func New(b []byte) *Reader {
	// What is handed in may be turned later on, so it is not kept.
	return &Reader{rest: withRoom(b, 0)}
}

// U32 takes a number.
func (r *Reader) U32() uint32 { return take[uint32](r) }

// U64 takes one.
func (r *Reader) U64() uint64 { return take[uint64](r) }

// Text takes a text.
func (r *Reader) Text() string { return string(r.next(int(take[uint16](r)))) }

// Left tells how many bytes are left.
func (r *Reader) Left() int {
	if r == nil {
		return 0
	}
	return len(r.rest)
}

// Right: was there always enough?
func (r *Reader) Right() bool { return r != nil && !r.short }

func take[T number](r *Reader) T {
	var n T
	b := r.next(width[T]())
	for i := range len(b) {
		n |= T(b[i]) << (8 * i)
	}
	return n
}

// next takes n bytes, or none. Where there are too few all that is left goes, so that nothing can be taken from then on.
func (r *Reader) next(n int) []byte {
	if r == nil {
		return nil
	}
	if n > len(r.rest) {
		r.rest, r.short = nil, true
		return nil
	}
	taken := r.rest[:n]
	r.rest = r.rest[n:]
	return taken
}
