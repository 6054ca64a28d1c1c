package node

import (
	"drumlin/api"
	"drumlin/codec"
)

// loader: a node on its way from the disk.
type loader struct {
	*Node
	read Reader
}

// Load: the one of an inode.
func Load(s api.Sector, at int, read Reader) (*Node, api.Errno) {
	x, e := codec.ReadInode(s)
	if e != api.OK {
		return nil, e
	}
	if x.Size > api.MaxSize {
		return nil, api.ErrForm
	}
	l := loader{New(x.Num, x.Version, x.Kind), read}
	l.size, l.time = x.Size, x.Time
	inode := l.part(codec.Node, 0)
	l.parts[inode] = stand{at: at}
	l.hang(inode, x.Direct[:])
	if e := l.pointers(x.Single, x.Double); e != api.OK {
		return nil, e
	}
	l.sectors = l.stood()
	return l.Node, api.OK
}

// pointers: the single block, the double one, and its leaves. The first thing that is wrong is told.
func (l loader) pointers(single, double int) api.Errno {
	if e := l.follow(l.part(codec.Single, 0), single); e != api.OK {
		return e
	}
	if e := l.follow(l.part(codec.Double, 0), double); e != api.OK {
		return e
	}
	for _, index := range l.indexes(codec.Leaf, func(stand) bool { return true }) {
		leaf := l.part(codec.Leaf, index)
		if e := l.follow(leaf, l.parts[leaf].at); e != api.OK {
			return e
		}
	}
	return api.OK
}

// follow: a pointer block, which is read; at 0 there is none.
func (l loader) follow(e codec.Entry, at int) api.Errno {
	if at == 0 {
		return api.OK
	}
	s, fault := l.read.ask(at)
	if fault != api.OK {
		return fault
	}
	list, fault := codec.ReadPointers(s)
	if fault != api.OK {
		return fault
	}
	l.parts[e] = stand{at: at}
	l.hang(e, list[:])
	return api.OK
}

// hang: what the slots of a part name hangs on it.
func (l loader) hang(e codec.Entry, list []int) {
	for slot, at := range list {
		if at != 0 {
			l.parts[l.below(e, slot)] = stand{at: at}
		}
	}
}
