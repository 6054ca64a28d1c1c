package kern

import (
	"slices"

	"drumlin/api"
	"drumlin/fault"
	"drumlin/num"
	"drumlin/sys"
	"drumlin/tree"
)

func (c *caller) link() (sys.Answer, api.Errno) {
	return sys.Answer{}, c.tree.Link(c.home, c.S, c.T)
}

func (c *caller) unlink() (sys.Answer, api.Errno) {
	return sys.Answer{}, c.tree.Unlink(c.home, c.S)
}

func (c *caller) rename() (sys.Answer, api.Errno) {
	return sys.Answer{}, c.tree.Rename(c.home, c.S, c.T)
}

func (c *caller) mkdir() (sys.Answer, api.Errno) {
	num, e := c.tree.Make(c.home, c.S, api.Dir)
	return sys.Answer{N: num}, e
}

func (c *caller) rmdir() (sys.Answer, api.Errno) {
	return sys.Answer{}, c.tree.Rmdir(c.home, c.S)
}

// chdir: the other directory is held ahead of the old one's end, as it may be the same.
func (c *caller) chdir() (sys.Answer, api.Errno) {
	num, e := c.tree.Walk(c.home, c.S)
	if e := fault.First(e, fault.When(!c.isDir(num), api.ErrNotdir)); e != api.OK {
		return sys.Answer{}, e
	}
	c.tree.Hold(num)
	c.tree.Drop(c.home)
	c.home = num
	return sys.Answer{}, api.OK
}

func (c *caller) getcwd() (sys.Answer, api.Errno) {
	path, e := c.tree.Path(c.home)
	return sys.Answer{Data: []byte(path)}, e
}

func (c *caller) sync() (sys.Answer, api.Errno) {
	return sys.Answer{}, c.tree.Vol().Flush()
}

func (c *caller) stat() (sys.Answer, api.Errno) {
	num, e := c.tree.Walk(c.home, c.S)
	if e != api.OK {
		return sys.Answer{}, e
	}
	return c.told(num)
}

// told: what a number is.
func (c *caller) told(num int) (sys.Answer, api.Errno) {
	s, e := c.tree.Stat(num)
	return sys.Answer{N: s.Num, M: s.Size, Data: statBytes(s)}, e
}

// isDir: is a number that of a directory?
func (c *caller) isDir(num int) bool {
	s, _ := c.tree.Stat(num)
	return s.Kind == api.Dir
}

// statBytes: its kind, links and time.
func statBytes(s tree.Stat) []byte {
	return slices.Concat(little(1, s.Kind), little(2, s.Links), little(4, int(s.Time)))
}

// little: a number as so many bytes, the lowest one first.
func little(width, n int) []byte {
	b := make([]byte, width)
	num.Put(b, 0, width, uint64(n))
	return b
}
