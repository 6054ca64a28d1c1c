package fs

import (
	"slices"
	"strings"

	"drumlin/api"
	"drumlin/dirent"
	"drumlin/tree"
)

// Dump: all that Root leads to. What is there is found first, each number once, and then laid out: so an error is met soon, also where directories that have many names lead to it in more ways than could be gone.
func Dump(t *tree.Tree) ([]Item, api.Errno) {
	f := finder{t, map[int]thing{}}
	if e := f.find(api.Root); e != api.OK {
		return nil, e
	}
	l := layout{things: f.things, first: map[int]int{}, way: map[int]int{}}
	l.lay(api.Root, "")
	return l.items, api.OK
}

// thing: what a number is.
type thing struct {
	kind    int
	entries []dirent.Entry // of a directory, but "..", by rising names
	data    []byte         // of a file
}

// finder: the things that were found of a tree.
type finder struct {
	tree   *tree.Tree
	things map[int]thing
}

// find: a number, and all that it leads to. What was found already needs no other look, though its items may come once more: what is on the way is still being looked at, and all else that it leads to was.
func (f finder) find(num int) api.Errno {
	if _, ok := f.things[num]; ok {
		return api.OK
	}
	x, e := f.thing(num)
	if e != api.OK {
		return e
	}
	f.things[num] = x
	for _, y := range x.entries {
		if e := f.find(y.Num); e != api.OK {
			return e
		}
	}
	return api.OK
}

// thing: of a number.
func (f finder) thing(num int) (thing, api.Errno) {
	stat, e := f.tree.Stat(num)
	if e != api.OK {
		return thing{}, e
	}
	x := thing{kind: stat.Kind}
	if x.kind == api.File {
		x.data, e = f.tree.Read(num, 0, stat.Size)
		return x, e
	}
	list, e := f.tree.List(num)
	x.entries, _ = parted(list)
	slices.SortStableFunc(x.entries, func(a, b dirent.Entry) int { return strings.Compare(a.Name, b.Name) })
	return x, e
}

// parted: a directory's entries but "..", and what the first ".." names; 0: there is none.
func parted(list []dirent.Entry) ([]dirent.Entry, int) {
	var others []dirent.Entry
	above := 0
	for _, x := range list {
		if x.Name != up {
			others = append(others, x)
		} else if above == 0 {
			above = x.Num
		}
	}
	return others, above
}

// layout: things on their way to items.
type layout struct {
	things map[int]thing
	first  map[int]int // of a file, which item is its first one
	way    map[int]int // the directories that are on the way
	items  []Item
}

// lay: what is below a directory of this path, unless it is on the way.
func (l *layout) lay(num int, path string) {
	if l.way[num] > 0 {
		return
	}
	l.way[num]++
	for _, x := range l.things[num].entries {
		below := path + "/" + x.Name
		l.items = append(l.items, l.item(x.Num, below))
		l.lay(x.Num, below)
	}
	delete(l.way, num)
}

// item: of a number that has this path. (It is going to be the last one.)
func (l *layout) item(num int, path string) Item {
	x := l.things[num]
	item := Item{Path: path, Kind: x.kind}
	if x.kind == api.Dir {
		return item
	}
	if i, ok := l.first[num]; ok {
		item.Link = l.items[i].Path
		return item
	}
	l.first[num] = len(l.items)
	item.Data = x.data
	return item
}
