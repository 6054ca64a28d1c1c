package fs

import (
	"bytes"

	"drumlin/api"
	"drumlin/num"
)

// linked: what stands in place of the kind of an item that has a Link.
const linked = api.Dir + 1

// The widths of what stands ahead of an item's bytes.
const (
	kindWidth = 1
	pathWidth = 2
	restWidth = 4
)

// Pack: as bytes.
func Pack(items ...Item) ([]byte, api.Errno) {
	var p packer
	for _, x := range items {
		if !x.may() || x.Kind == api.Dir && len(x.Data) > 0 {
			return nil, api.ErrInval
		}
		kind, rest := x.Kind, x.Data
		if x.Link != "" {
			kind, rest = linked, []byte(x.Link)
		}
		p.num(kindWidth, kind)
		p.text(pathWidth, []byte(x.Path))
		p.text(restWidth, rest)
	}
	if p.failed {
		return nil, api.ErrInval
	}
	return p.bytes, api.OK
}

// Unpack: and back. What was read is packed again and held against the bytes, so that whatever Pack never makes is refused.
func Unpack(b []byte) ([]Item, api.Errno) {
	u := unpacker{b}
	var items []Item
	for len(u.bytes) > 0 {
		items = append(items, u.item())
	}
	made, e := Pack(items...)
	if e != api.OK || !bytes.Equal(made, b) {
		return nil, api.ErrForm
	}
	return items, api.OK
}

// packer: bytes that get more.
type packer struct {
	bytes  []byte
	failed bool
}

// num: a number; it fails, if that has no room.
func (p *packer) num(width, n int) {
	p.bytes = append(p.bytes, make([]byte, width)...)
	if num.Put(p.bytes, len(p.bytes)-width, width, uint64(n)) != api.OK {
		p.failed = true
	}
}

// text: how many bytes there are, then these.
func (p *packer) text(width int, b []byte) {
	p.num(width, len(b))
	p.bytes = append(p.bytes, b...)
}

// unpacker: the bytes that are left. What isn't there is read as 0, or as no more than there is.
type unpacker struct {
	bytes []byte
}

func (u *unpacker) item() Item {
	kind := u.num(kindWidth)
	x := Item{Kind: kind, Path: string(u.text(pathWidth))}
	rest := u.text(restWidth)
	if kind == linked {
		x.Kind, x.Link = api.File, string(rest)
		return x
	}
	x.Data = append(x.Data, rest...)
	return x
}

func (u *unpacker) num(width int) int {
	n, _ := num.Get(u.bytes, 0, width)
	u.bytes = u.bytes[min(width, len(u.bytes)):]
	return int(n)
}

func (u *unpacker) text(width int) []byte {
	n := min(u.num(width), len(u.bytes))
	b := u.bytes[:n]
	u.bytes = u.bytes[n:]
	return b
}
