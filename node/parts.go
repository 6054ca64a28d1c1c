package node

import (
	"slices"

	"drumlin/api"
	"drumlin/codec"
	"drumlin/ptr"
)

// stand: where a part stands on the disk; nowhere as it is now, if it is pending.
type stand struct {
	at      int
	pending bool
}

// part: the entry that the log has of one.
func (n *Node) part(kind, index int) codec.Entry {
	return codec.Entry{Kind: kind, Num: n.num, Version: n.version, Index: index}
}

// has: is there this part?
func (n *Node) has(e codec.Entry) bool {
	_, ok := n.parts[e]
	return ok
}

// indexes: of those parts of a kind that are so, rising.
func (n *Node) indexes(kind int, so func(x stand) bool) []int {
	var list []int
	for e, x := range n.parts {
		if e.Kind == kind && so(x) {
			list = append(list, e.Index)
		}
	}
	slices.Sort(list)
	return list
}

// above: what a part hangs on, all but the inode. (A block's index is one of a file, as it is a part.)
func (n *Node) above(e codec.Entry) codec.Entry {
	if e.Kind == codec.Leaf {
		return n.part(codec.Double, 0)
	}
	if e.Kind == codec.Data {
		p, _ := ptr.Of(e.Index)
		switch p.Level {
		case ptr.InSingle:
			return n.part(codec.Single, 0)
		case ptr.InLeaf:
			return n.part(codec.Leaf, p.Leaf)
		}
	}
	return n.part(codec.Node, 0)
}

// below: what hangs on a slot of the inode (of its direct ones), or of a pointer block.
func (n *Node) below(e codec.Entry, slot int) codec.Entry {
	p := ptr.Place{Level: ptr.InNode, Leaf: e.Index, Slot: slot}
	switch e.Kind {
	case codec.Double:
		return n.part(codec.Leaf, slot)
	case codec.Single:
		p.Level = ptr.InSingle
	case codec.Leaf:
		p.Level = ptr.InLeaf
	}
	index, _ := p.Index()
	return n.part(codec.Data, index)
}

// touch: a part is pending, or gone, if there is nothing of it any more; so is what it hangs on, up to the inode.
func (n *Node) touch(e codec.Entry) {
	if n.bare(e) {
		delete(n.parts, e)
	} else {
		n.parts[e] = stand{pending: true}
	}
	if e.Kind != codec.Node {
		n.touch(n.above(e))
	}
}

// bare: is there nothing of a part that is touched: of a block no bytes, of a pointer block nothing that hangs on it?
func (n *Node) bare(e codec.Entry) bool {
	switch e.Kind {
	case codec.Node:
		return false
	case codec.Data:
		_, ok := n.bytes[e.Index]
		return !ok
	}
	for slot := range api.Fan {
		if n.has(n.below(e, slot)) {
			return false
		}
	}
	return true
}

// stood: the sectors of all parts, each once, rising.
func (n *Node) stood() []int {
	var list []int
	for _, x := range n.parts {
		list = append(list, x.at)
	}
	slices.Sort(list)
	return slices.Compact(list)
}
