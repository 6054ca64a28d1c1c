package tree

import (
	"slices"

	"drumlin/api"
	"drumlin/dir"
	"drumlin/dirent"
	"drumlin/fault"
	"drumlin/name"
)

const up = ".."

// Walk: the number that a path names.
func (t *Tree) Walk(from int, path string) (int, api.Errno) {
	p, e := name.Parse(path)
	if e != api.OK {
		return 0, e
	}
	return t.walk(from, p)
}

// walk: of a path that was read. (from must be there even if the path begins at Root.)
func (t *Tree) walk(from int, p name.Path) (int, api.Errno) {
	if _, e := t.vol.Size(from); e != api.OK {
		return 0, e
	}
	num := from
	if p.Abs {
		num = api.Root
	}
	for _, part := range p.Parts {
		next, e := dir.Find(t.vol, num, part)
		if e != api.OK {
			return 0, e
		}
		num = next
	}
	if p.Dir && t.is(num, api.File) {
		return 0, api.ErrNotdir
	}
	return num, api.OK
}

// Path: of a directory. (Of what is none, dir tells what it is.)
func (t *Tree) Path(num int) (string, api.Errno) {
	var parts []string
	for num != api.Root {
		above, e := dir.Find(t.vol, num, up)
		if e != api.OK {
			return "", e
		}
		part, e := t.named(above, num)
		if e := fault.First(e, fault.When(len(parts) == api.MaxParts, api.ErrNoent)); e != api.OK {
			return "", e
		}
		parts = append(parts, part)
		num = above
	}
	slices.Reverse(parts)
	return name.Path{Abs: true, Parts: parts}.Text(), api.OK
}

// named: the name of the first entry of a directory that names a number.
func (t *Tree) named(num, target int) (string, api.Errno) {
	list, e := dir.List(t.vol, num)
	if e != api.OK {
		return "", e
	}
	i := slices.IndexFunc(list, func(x dirent.Entry) bool { return x.Num == target })
	if i < 0 {
		return "", api.ErrNoent
	}
	return list[i].Name, api.OK
}

// apart: is a directory neither another one, nor below it? ErrInval: it is. (No way up is longer than there are numbers, but where directories go round.)
func (t *Tree) apart(num, from int) api.Errno {
	for range api.MaxInodes {
		if num == from {
			return api.ErrInval
		}
		above, e := dir.Find(t.vol, num, up)
		if e == api.ErrNoent || above == num { // without a name, or Root
			return api.OK
		}
		if e != api.OK {
			return e
		}
		num = above
	}
	return api.OK
}
