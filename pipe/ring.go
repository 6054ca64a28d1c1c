package pipe

import "drumlin/api"

// ring: bytes that come out in the order in which they went in. They stand in an array behind its first one, and go on at its beginning.
type ring struct {
	bytes        [api.PipeSize]byte
	first, count int
}

// room: for how many bytes.
func (r *ring) room() int {
	return len(r.bytes) - r.count
}

// put: one byte, for which there is room.
func (r *ring) put(c byte) {
	r.bytes[(r.first+r.count)%len(r.bytes)] = c
	r.count++
}

// take: the first byte, of those that there are.
func (r *ring) take() byte {
	c := r.bytes[r.first]
	r.first = (r.first + 1) % len(r.bytes)
	r.count--
	return c
}
