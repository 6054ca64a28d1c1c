package tree

import (
	"drumlin/api"
	"drumlin/dir"
	"drumlin/dirent"
	"drumlin/fault"
	"drumlin/name"
)

// most: as many entries as a directory may have.
const most = api.MaxBlocks * len([4]dirent.Entry{})

// spot: where an entry stands, or is to stand.
type spot struct {
	dir  int
	name string
	num  int  // what the entry names; 0: there is none
	must bool // a directory is meant
}

// spot: of a path's last part; none is the error of a path without one.
func (t *Tree) spot(from int, p name.Path, none api.Errno) (spot, api.Errno) {
	rest, last, ok := p.Last()
	if !ok {
		return spot{}, none
	}
	at, e := t.walk(from, rest)
	if e != api.OK {
		return spot{}, e
	}
	num, e := dir.Find(t.vol, at, last)
	if e != api.OK && e != api.ErrNoent {
		return spot{}, e
	}
	return spot{dir: at, name: last, num: num, must: p.Dir}, api.OK
}

// entry: one that stands there.
func (t *Tree) entry(from int, path string) (spot, api.Errno) {
	p, e := name.Parse(path)
	if e != api.OK {
		return spot{}, e
	}
	x, e := t.spot(from, p, api.ErrBusy)
	if e := fault.First(e, fault.When(x.num == 0, api.ErrNoent)); e != api.OK {
		return spot{}, e
	}
	return x, api.OK
}

// vacant: the spot of a new entry, which is to name something of this kind.
func (t *Tree) vacant(from int, p name.Path, kind int) (spot, api.Errno) {
	x, e := t.spot(from, p, api.ErrExist)
	e = fault.First(
		e,
		fault.When(x.num != 0, api.ErrExist),
		fault.When(kind == api.File && x.must, api.ErrNotdir),
		fault.When(t.links(x.dir) == 0, api.ErrNoent),
	)
	if e != api.OK {
		return spot{}, e
	}
	return x, api.OK
}

// room: may a directory have an entry more, if other things cost so many blocks more besides?
func (t *Tree) room(num, besides int) api.Errno {
	list, e := dir.List(t.vol, num)
	if e != api.OK {
		return e
	}
	more, e := dir.Grows(t.vol, num)
	return fault.First(
		e,
		fault.When(t.vol.Cost()+more+besides > t.vol.Geom().Room(), api.ErrNospc),
		fault.When(len(list) == most, api.ErrFbig),
	)
}

// Make: a new file or directory.
func (t *Tree) Make(from int, path string, kind int) (int, api.Errno) {
	p, e := name.Parse(path)
	if e := fault.First(e, fault.When(kind != api.File && kind != api.Dir, api.ErrInval)); e != api.OK {
		return 0, e
	}
	x, e := t.vacant(from, p, kind)
	if e != api.OK {
		return 0, e
	}
	cost := 1 // the inode
	if kind == api.Dir {
		cost = 2 // and the block with ".."
	}
	used := len(t.vol.Used())
	if e := fault.First(fault.When(used == t.vol.Geom().Inodes, api.ErrNospc), t.room(x.dir, cost)); e != api.OK {
		return 0, e
	}
	num, e := t.vol.New(kind)
	if e != api.OK {
		return 0, e
	}
	if kind == api.Dir {
		dir.Start(t.vol, num, x.dir)
	}
	t.mark(num)
	t.vol.Link(num, 1)
	if e := t.insert(x, num); e != api.OK {
		return 0, e
	}
	return num, api.OK
}

// insert: the entry of a spot names a number, whatever it named ahead of that.
func (t *Tree) insert(x spot, num int) api.Errno {
	e := api.OK
	if x.num == 0 {
		e = dir.Insert(t.vol, x.dir, x.name, num)
	} else {
		_, e = dir.Replace(t.vol, x.dir, x.name, num)
	}
	t.mark(x.dir)
	return e
}

// remove: the entry of a spot is gone.
func (t *Tree) remove(x spot) api.Errno {
	_, e := dir.Remove(t.vol, x.dir, x.name)
	t.mark(x.dir)
	return e
}

// unname: a number has a name less. (Of a directory that was the only one.)
func (t *Tree) unname(num int) api.Errno {
	if t.is(num, api.Dir) {
		if e := t.vol.Truncate(num, 0); e != api.OK {
			return e
		}
	}
	if _, e := t.vol.Link(num, -1); e != api.OK {
		return e
	}
	return t.bury(num)
}

// Link: one name more.
func (t *Tree) Link(from int, old, path string) api.Errno {
	num, e := t.Walk(from, old)
	if e != api.OK {
		return e
	}
	return t.LinkNum(num, from, path)
}

// LinkNum: a file has a name more, in a directory.
func (t *Tree) LinkNum(num, from int, path string) api.Errno {
	if e := t.file(num); e != api.OK {
		return e
	}
	p, e := name.Parse(path)
	if e != api.OK {
		return e
	}
	x, e := t.vacant(from, p, api.File)
	if e != api.OK {
		return e
	}
	if e := fault.First(fault.When(t.links(num) == api.MaxLinks, api.ErrMlink), t.room(x.dir, 0)); e != api.OK {
		return e
	}
	if _, e := t.vol.Link(num, 1); e != api.OK {
		return e
	}
	return t.insert(x, num)
}

// Unlink: one name less.
func (t *Tree) Unlink(from int, path string) api.Errno {
	x, e := t.entry(from, path)
	if e := fault.First(e, fault.When(t.is(x.num, api.Dir), api.ErrIsdir), fault.When(x.must, api.ErrNotdir)); e != api.OK {
		return e
	}
	return t.take(x)
}

// Rmdir: an empty directory is gone.
func (t *Tree) Rmdir(from int, path string) api.Errno {
	x, e := t.entry(from, path)
	if e != api.OK {
		return e
	}
	if e := t.empty(x.num); e != api.OK {
		return e
	}
	return t.take(x)
}

// empty: is a number that of an empty directory?
func (t *Tree) empty(num int) api.Errno {
	ok, e := dir.Empty(t.vol, num)
	return fault.First(e, fault.When(!ok, api.ErrNotempty))
}

// take: an entry is gone, and what it named has a name less.
func (t *Tree) take(x spot) api.Errno {
	if e := t.remove(x); e != api.OK {
		return e
	}
	return t.unname(x.num)
}
