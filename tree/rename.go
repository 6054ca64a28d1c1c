package tree

import (
	"drumlin/api"
	"drumlin/dir"
	"drumlin/fault"
	"drumlin/name"
)

// Rename: another name.
func (t *Tree) Rename(from int, old, path string) api.Errno {
	x, e := t.entry(from, old)
	if e := fault.First(e, fault.When(x.must && t.is(x.num, api.File), api.ErrNotdir)); e != api.OK {
		return e
	}
	p, e := name.Parse(path)
	if e != api.OK {
		return e
	}
	y, e := t.spot(from, p, api.ErrBusy)
	if e != api.OK {
		return e
	}
	if e := t.goes(x, y); e != api.OK {
		return e
	}
	if x.num == y.num {
		return api.OK
	}
	if e := fault.First(t.takes(x, y), t.turns(x, y)); e != api.OK {
		return e
	}
	return t.move(x, y)
}

// goes: may what stands at x go to the directory, and have the name, of y, whatever stands there?
func (t *Tree) goes(x, y spot) api.Errno {
	below := api.OK
	if t.is(x.num, api.Dir) {
		below = t.apart(y.dir, x.num)
	}
	return fault.First(
		below,
		fault.When(t.links(y.dir) == 0, api.ErrNoent),
		fault.When(y.must && t.is(x.num, api.File), api.ErrNotdir),
	)
}

// takes: may what stands at x take the place of what stands at y, or has it room there, if nothing does?
func (t *Tree) takes(x, y spot) api.Errno {
	switch {
	case y.num == 0:
		return t.room(y.dir, 0)
	case t.is(x.num, api.File):
		return fault.When(t.is(y.num, api.Dir), api.ErrIsdir)
	}
	return t.empty(y.num) // ErrNotdir, if it is a file
}

// turns: can ".." of what stands at x be read, if it must be changed? It is asked ahead of any change, as a disk that is dead may have refused it.
func (t *Tree) turns(x, y spot) api.Errno {
	if !t.turned(x, y) {
		return api.OK
	}
	_, e := dir.Find(t.vol, x.num, up)
	return e
}

// turned: is it a directory that comes to another one?
func (t *Tree) turned(x, y spot) bool {
	return t.is(x.num, api.Dir) && x.dir != y.dir
}

// move: the entry of y first, so that its directory grows as if x stayed.
func (t *Tree) move(x, y spot) api.Errno {
	if e := t.insert(y, x.num); e != api.OK {
		return e
	}
	if e := t.remove(x); e != api.OK {
		return e
	}
	if t.turned(x, y) {
		if _, e := dir.Replace(t.vol, x.num, up, y.dir); e != api.OK {
			return e
		}
		t.mark(x.num)
	}
	if y.num == 0 {
		return api.OK
	}
	return t.unname(y.num)
}
