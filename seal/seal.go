// Package seal is layer 2: sectors that tell what they are, and that they are whole (see shared/doc/02-seal.md).
package seal

import (
	"drumlin/api"
	"drumlin/num"
)

const (
	mark       = 0x4cd7     // the bytes D7 4C, the lowest first
	sumAt      = 124        // what is ahead of the sum is what it is of
	polynomial = 0xedb88320 // reflected, as the bits come the lowest first
)

// Crc: of bytes.
func Crc(list ...byte) uint32 {
	sum := ^uint32(0)
	for i := range len(list) {
		sum ^= uint32(list[i])
		for range 8 {
			// A mask rather than a question: it costs the same whatever the bit is.
			sum = sum>>1 ^ polynomial&-(sum&1)
		}
	}
	return ^sum
}

// Make: a sealed sector. The Writer refuses a body that is too long.
func Make(kind byte, body []byte) (api.Sector, api.Errno) {
	var w num.Writer
	w.Num(2, mark)
	w.Num(1, uint64(kind))
	w.Num(1, uint64(len(body)))
	w.Bytes(api.BodySize, body)
	s, e := w.Sector()
	if kind == 0 || e != api.OK {
		return api.Sector{}, api.ErrInval
	}
	num.Put(s[:], sumAt, 4, uint64(Crc(s[:sumAt]...)))
	return s, api.OK
}

// Open: its kind and body. It is made again and held against what was made, so that whatever Make never makes is refused.
func Open(s api.Sector) (byte, []byte, api.Errno) {
	r := num.Read(s)
	r.Num(2)
	kind := byte(r.Num(1))
	body := r.Bytes(int(r.Num(1)))
	made, e := Make(kind, body)
	if e != api.OK || made != s {
		return 0, nil, api.ErrForm
	}
	return kind, body, api.OK
}

// Is: is it one of this kind?
func Is(s api.Sector, kind byte) bool {
	found, _, e := Open(s)
	return e == api.OK && found == kind
}
