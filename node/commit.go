package node

import (
	"maps"
	"slices"

	"drumlin/api"
	"drumlin/codec"
	"drumlin/slog"
)

const maxAt = api.MaxSectors - 1

// order: of the kinds of parts; each comes behind what hangs on it.
var order = [...]int{codec.Data, codec.Leaf, codec.Single, codec.Double, codec.Node}

// Pending: what must be written.
func (n *Node) Pending() []codec.Entry {
	var list []codec.Entry
	for _, kind := range order {
		for _, index := range n.indexes(kind, func(x stand) bool { return x.pending }) {
			list = append(list, n.part(kind, index))
		}
	}
	return list
}

// Commit: it goes to these sectors. A node that may not be written (of its Num, or Kind) is refused by layer 5, and stays as it was.
func (n *Node) Commit(at ...int) ([]slog.Item, []int, api.Errno) {
	pending := n.Pending()
	if len(at) != len(pending) || slices.ContainsFunc(at, func(x int) bool { return x < 1 || x > maxAt }) {
		return nil, nil, api.ErrInval
	}
	next := *n
	next.parts = maps.Clone(n.parts)
	for i, e := range pending {
		next.parts[e] = stand{at: at[i]}
	}
	var items []slog.Item
	for _, e := range pending {
		s, fault := next.sector(e)
		if fault != api.OK {
			return nil, nil, fault
		}
		items = append(items, slog.Item{Entry: e, Data: s})
	}
	next.sectors = next.stood()
	next.bytes = map[int]api.Sector{}
	dead := without(n.sectors, next.sectors)
	*n = next
	return items, dead, api.OK
}

// sector: what is to be written of a part.
func (n *Node) sector(e codec.Entry) (api.Sector, api.Errno) {
	switch e.Kind {
	case codec.Data:
		return n.bytes[e.Index], api.OK
	case codec.Node:
		return codec.WriteInode(n.inode(e))
	}
	var list [api.Fan]int
	n.name(e, list[:])
	return codec.WritePointers(list)
}

// inode: what stands in it.
func (n *Node) inode(e codec.Entry) codec.Inode {
	x := codec.Inode{Num: n.num, Version: n.version, Kind: n.kind, Size: n.size, Time: n.time}
	n.name(e, x.Direct[:])
	x.Single = n.parts[n.part(codec.Single, 0)].at
	x.Double = n.parts[n.part(codec.Double, 0)].at
	return x
}

// name: the slots of a part name what hangs on it; where nothing does, they are 0.
func (n *Node) name(e codec.Entry, list []int) {
	for slot := range list {
		list[slot] = n.parts[n.below(e, slot)].at
	}
}

// without: those of a list that aren't in another one, which rises.
func without(list, other []int) []int {
	return slices.DeleteFunc(slices.Clone(list), func(x int) bool {
		_, found := slices.BinarySearch(other, x)
		return found
	})
}
