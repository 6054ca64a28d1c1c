package fs

import (
	"strings"

	"drumlin/api"
	"drumlin/dirent"
	"drumlin/fault"
	"drumlin/tree"
)

// Restore: it is made again.
func Restore(t *tree.Tree, items ...Item) api.Errno {
	m := maker{t, map[string]made{"": {api.Root, api.Dir}}}
	for _, x := range items {
		if e := m.add(x); e != api.OK {
			return e
		}
	}
	return api.OK
}

// made: what was made of an item; of none all is 0.
type made struct {
	num, kind int
}

// maker: makes items in a tree. What it has made stands by its path; by the empty one, which no item has, Root.
type maker struct {
	tree *tree.Tree
	made map[string]made
}

// add: one item. (Where an item ahead, or another thing, has its path, tree finds it, and tells that ahead of its other errors.)
func (m maker) add(x Item) api.Errno {
	at := strings.LastIndexByte(x.Path, '/')
	above, same := m.made[x.Path[:max(at, 0)]], m.made[x.Link]
	e := fault.First(
		fault.When(!isPath(x.Path) || !x.may(), api.ErrInval),
		fault.When(above.kind != api.Dir, api.ErrNoent),
		fault.When(x.Link != "" && same.kind != api.File, api.ErrNoent),
	)
	if e != api.OK {
		return e
	}
	name := x.Path[at+1:]
	if x.Link != "" {
		m.made[x.Path] = same
		return m.tree.LinkNum(same.num, above.num, name)
	}
	num, e := m.tree.Make(above.num, name, x.Kind)
	m.made[x.Path] = made{num, x.Kind}
	if e != api.OK || x.Kind == api.Dir {
		return e
	}
	n, e := m.tree.Write(num, 0, x.Data)
	return fault.First(e, fault.When(n < len(x.Data), api.ErrNospc))
}

// isPath: is it a path of an item?
func isPath(path string) bool {
	names, ok := strings.CutPrefix(path, "/")
	for name := range strings.SplitSeq(names, "/") {
		ok = ok && dirent.Good(name) == api.OK && name != "." && name != up
	}
	return ok
}
