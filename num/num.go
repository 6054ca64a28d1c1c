// Package num is layer 1: numbers of fixed width in bytes, the lowest byte first (see shared/doc/01-num.md).
package num

import "drumlin/api"

// Put: a number stands in bytes.
func Put(b []byte, at, width int, n uint64) api.Errno {
	if !stands(b, at, width) || n>>(8*width) != 0 {
		return api.ErrInval
	}
	for i := range width {
		b[at+i] = byte(n >> (8 * i))
	}
	return api.OK
}

// Get: and back.
func Get(b []byte, at, width int) (uint64, api.Errno) {
	if !stands(b, at, width) {
		return 0, api.ErrInval
	}
	var n uint64
	for i := range width {
		n |= uint64(b[at+i]) << (8 * i)
	}
	return n, api.OK
}

// stands: the width is taken from the length, as at and width together may be more than an int holds.
func stands(b []byte, at, width int) bool {
	return width >= 1 && width <= 8 && at >= 0 && at <= len(b)-width
}

// Writer: a sector, part by part.
type Writer struct {
	sector api.Sector
	at     int
	failed bool
}

// Num: a number.
func (w *Writer) Num(width int, n uint64) {
	if w.failed || Put(w.sector[:], w.at, width, n) != api.OK {
		w.failed = true
		return
	}
	w.at += width
}

// Bytes: bytes, with noughts behind them, which stand there already: nothing is written behind at.
func (w *Writer) Bytes(size int, b []byte) {
	if w.failed || size < len(b) || size > len(w.sector)-w.at {
		w.failed = true
		return
	}
	copy(w.sector[w.at:], b)
	w.at += size
}

// Sector: all of it.
func (w *Writer) Sector() (api.Sector, api.Errno) {
	if w.failed {
		return api.Sector{}, api.ErrInval
	}
	return w.sector, api.OK
}

// Reader: a sector, part by part.
type Reader struct {
	sector api.Sector
	at     int
	failed bool
}

// Read: of a sector.
func Read(s api.Sector) *Reader {
	return &Reader{sector: s}
}

// Num: a number.
func (r *Reader) Num(width int) uint64 {
	n, e := Get(r.sector[:], r.at, width)
	if r.failed || e != api.OK {
		r.failed = true
		return 0
	}
	r.at += width
	return n
}

// Bytes: so many, in new memory, so that nobody who has them can change what is read next.
func (r *Reader) Bytes(size int) []byte {
	if r.failed || size < 0 || size > r.Left() {
		r.failed = true
		return nil
	}
	b := make([]byte, size)
	copy(b, r.sector[r.at:])
	r.at += size
	return b
}

// Left: how many bytes are left.
func (r *Reader) Left() int {
	return len(r.sector) - r.at
}

// Close: the first error; it ends nothing: what is left may be read still, and closed again.
func (r *Reader) Close() api.Errno {
	if r.failed {
		return api.ErrInval
	}
	for i := range r.Left() {
		if r.sector[r.at+i] != 0 {
			return api.ErrForm
		}
	}
	return api.OK
}
