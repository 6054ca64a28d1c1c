package tree

import (
	"slices"
	"sort"

	"drumlin/api"
	"drumlin/dir"
	"drumlin/dirent"
	"drumlin/fault"
	"drumlin/ptr"
)

// Stat: what a number is.
type Stat struct {
	Num, Kind, Size, Links int
	Time                   uint32
}

// Stat: of a number.
func (t *Tree) Stat(num int) (Stat, api.Errno) {
	size, e := t.vol.Size(num)
	if e != api.OK {
		return Stat{}, e
	}
	time, _ := t.vol.Marked(num)
	slot, _ := t.vol.Slot(num)
	return Stat{Num: num, Kind: slot.Kind, Size: size, Links: slot.Links, Time: time}, api.OK
}

// List: a directory's entries.
func (t *Tree) List(num int) ([]dirent.Entry, api.Errno) { return dir.List(t.vol, num) }

// file: is a number that of a file?
func (t *Tree) file(num int) api.Errno {
	_, e := t.vol.Size(num)
	return fault.First(e, fault.When(t.is(num, api.Dir), api.ErrIsdir))
}

// Read: a file's bytes.
func (t *Tree) Read(num, at, size int) ([]byte, api.Errno) {
	if e := t.file(num); e != api.OK {
		return nil, e
	}
	return t.vol.Read(num, at, size)
}

// Truncate: another size.
func (t *Tree) Truncate(num, size int) api.Errno {
	if e := t.file(num); e != api.OK {
		return e
	}
	if e := t.vol.Truncate(num, size); e != api.OK {
		return e
	}
	t.mark(num)
	return api.OK
}

// Write: others. What there is room for goes into the volume at once: so either all of it is written, or, if a block can't be read, nothing.
func (t *Tree) Write(num, at int, b []byte) (int, api.Errno) {
	e := fault.First(
		t.file(num),
		fault.When(at < 0, api.ErrInval),
		fault.When(at >= api.MaxSize && len(b) > 0, api.ErrFbig),
	)
	if e != api.OK || len(b) == 0 {
		return 0, e
	}
	n := t.fits(num, at, min(len(b), api.MaxSize-at))
	if n == 0 {
		return 0, api.ErrNospc
	}
	if e := t.vol.Write(num, at, b[:n]); e != api.OK {
		return 0, e
	}
	t.mark(num)
	return n, api.OK
}

// fits: how many of n bytes there is room for, block by block. (Each block more costs as much or more, so what there is no room for is sought by halves.)
func (t *Tree) fits(num, at, n int) int {
	indexes, _ := t.vol.Indexes(num)
	pieces, _ := ptr.Cut(at, n)
	room := t.vol.Geom().Room() - t.vol.Cost() + ptr.Cost(indexes...)
	some := pieces[:sort.Search(len(pieces), func(i int) bool {
		return ptr.Cost(with(indexes, pieces[:i+1])...) > room
	})]
	sum := 0
	for _, p := range some {
		sum += p.To - p.From
	}
	return sum
}

// with: indexes, and those of some pieces.
func with(indexes []int, pieces []ptr.Piece) []int {
	all := slices.Clone(indexes)
	for _, p := range pieces {
		all = append(all, p.Index)
	}
	return all
}
