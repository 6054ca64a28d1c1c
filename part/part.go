// Package part is what layers 5 and 6 write and read through: how a thing is laid in bytes is told once, by one function, number by number, and serves both ways.
package part

import (
	"drumlin/api"
	"drumlin/num"
)

// Port: a number goes through it, on its way to bytes or from there.
type Port interface {
	// Num: the number that stands in the next bytes: n, if it is written.
	Num(width int, n uint64) uint64
	// Left: how many bytes are still to be read; none, if it is written.
	Left() int
}

// Write: the bytes of a thing. ErrInval: a number has no room there.
func Write[T any](x T, lay func(p Port, x *T)) ([]byte, api.Errno) {
	var w writer
	lay(&w, &x)
	if w.failed {
		return nil, api.ErrInval
	}
	return w.bytes, api.OK
}

// Read: a thing of bytes. What isn't there is 0, and what is too much is left: whoever must know makes the bytes again.
func Read[T any](b []byte, lay func(p Port, x *T)) T {
	var x T
	lay(&reader{b}, &x)
	return x
}

// Num: one number of a thing. (One below 0 is far too great as a uint64, and so is refused.)
func Num[T byte | uint32 | uint64 | int](p Port, width int, x *T) {
	*x = T(p.Num(width, uint64(*x)))
}

// Flag: 0 or 1.
func Flag(p Port, x *bool) {
	n := 0
	if *x {
		n = 1
	}
	Num(p, 1, &n)
	*x = n != 0
}

// Each: one item behind the other, as long as there are more. Those that are there are copied, so that a list that was handed in isn't written to.
func Each[T any](p Port, list []T, more func(i int) bool, lay func(p Port, x *T)) []T {
	var all []T
	for i := 0; more(i); i++ {
		var x T
		if i < len(list) {
			x = list[i]
		}
		lay(p, &x)
		all = append(all, x)
	}
	return all
}

// Rest: items up to the end.
func Rest[T any](lay func(p Port, x *T)) func(p Port, list *[]T) {
	return func(p Port, list *[]T) {
		*list = Each(p, *list, func(i int) bool { return i < len(*list) || p.Left() > 0 }, lay)
	}
}

// writer: a port into bytes.
type writer struct {
	bytes  []byte
	failed bool
}

func (w *writer) Num(width int, n uint64) uint64 {
	at := len(w.bytes)
	w.bytes = append(w.bytes, make([]byte, width)...)
	if num.Put(w.bytes, at, width, n) != api.OK {
		w.failed = true
	}
	return n
}

func (w *writer) Left() int {
	return 0
}

// reader: a port from bytes; those that are left.
type reader struct {
	bytes []byte
}

func (r *reader) Num(width int, _ uint64) uint64 {
	n, e := num.Get(r.bytes, 0, width)
	if e != api.OK {
		r.bytes = nil // a number that isn't whole ends it: no other one is read of its bytes
		return 0
	}
	r.bytes = r.bytes[width:]
	return n
}

func (r *reader) Left() int {
	return len(r.bytes)
}
