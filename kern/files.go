package kern

import (
	"slices"

	"drumlin/api"
	"drumlin/fault"
	"drumlin/fd"
	"drumlin/sys"
)

// anything: some of it may be done by every open file.
const anything = fd.Read | fd.Write | fd.Append

// piped: is it of a pipe?
func piped(o fd.Open) bool {
	return o.Kind != fd.Inode
}

// file: the open file of the fd A, by which some of this may be done.
func (c *caller) file(flags int) (int, fd.Open, api.Errno) {
	id, e := c.fds.Get(c.A)
	if e != api.OK {
		return 0, fd.Open{}, e
	}
	o, e := c.files.Get(id)
	if e := fault.First(e, fault.When(o.Flags&flags == 0, api.ErrBadf)); e != api.OK {
		return 0, fd.Open{}, e
	}
	return id, o, api.OK
}

// inode: likewise, of no pipe.
func (c *caller) inode(flags int) (int, fd.Open, api.Errno) {
	id, o, e := c.file(flags)
	if e := fault.First(e, fault.When(piped(o), api.ErrSpipe)); e != api.OK {
		return 0, fd.Open{}, e
	}
	return id, o, api.OK
}

// room: for so many open files more, which are to be known by fds.
func (c *caller) room(more int) api.Errno {
	return fault.First(
		fault.When(len(c.fds.Known())+more > c.most.Fds, api.ErrMfile),
		fault.When(c.files.Count()+more > c.most.Files, api.ErrNfile),
	)
}

// know: the fd of a new open file, for which there is room.
func (c *caller) know(kind, num, flags int) int {
	id, _ := c.files.Open(kind, num, flags)
	n, _ := c.fds.Put(id)
	return n
}

// open: what is there is cut off last, when nothing can be refused any more.
func (c *caller) open() (sys.Answer, api.Errno) {
	if e := c.room(1); e != api.OK {
		return sys.Answer{}, e
	}
	num, e := c.target()
	if e != api.OK {
		return sys.Answer{}, e
	}
	if c.A&sys.OTrunc != 0 {
		if e := c.tree.Truncate(num, 0); e != api.OK {
			return sys.Answer{}, e
		}
	}
	c.tree.Hold(num)
	return sys.Answer{N: c.know(fd.Inode, num, c.A&anything)}, api.OK
}

// target: what is to be opened: it is there, or it is made.
func (c *caller) target() (int, api.Errno) {
	num, e := c.tree.Walk(c.home, c.S)
	if e == api.ErrNoent && c.A&sys.OCreate != 0 {
		return c.tree.Make(c.home, c.S, api.File)
	}
	return num, fault.First(
		e,
		fault.When(c.A&sys.OExcl != 0, api.ErrExist),
		fault.When(c.A&(sys.OWrite|sys.OAppend) != 0 && c.isDir(num), api.ErrIsdir),
	)
}

func (c *caller) close() (sys.Answer, api.Errno) {
	id, e := c.fds.Take(c.A)
	if e == api.OK {
		c.shut(id)
	}
	return sys.Answer{}, e
}

func (c *caller) read() (sys.Answer, api.Errno) {
	id, o, e := c.file(fd.Read)
	if e != api.OK {
		return sys.Answer{}, e
	}
	if piped(o) {
		b, e := c.pipes.Read(o.Num, c.B)
		return sys.Answer{N: len(b), Data: b}, e
	}
	b, e := c.tree.Read(o.Num, o.At, c.B)
	if e != api.OK {
		return sys.Answer{}, e
	}
	c.files.Move(id, o.At+len(b))
	return sys.Answer{N: len(b), Data: b}, api.OK
}

func (c *caller) write() (sys.Answer, api.Errno) {
	id, o, e := c.file(fd.Write | fd.Append)
	if e != api.OK {
		return sys.Answer{}, e
	}
	if piped(o) {
		n, e := c.pipes.Write(o.Num, c.Data)
		return sys.Answer{N: n}, e
	}
	at := o.At
	if o.Flags&fd.Append != 0 {
		at = c.size(o.Num)
	}
	n, e := c.tree.Write(o.Num, at, c.Data)
	if e != api.OK {
		return sys.Answer{}, e
	}
	c.files.Move(id, at+n)
	return sys.Answer{N: n}, api.OK
}

// size: of a file or directory.
func (c *caller) size(num int) int {
	s, _ := c.tree.Stat(num)
	return s.Size
}

// seek: the lowest two bits of B tell from where on, those above them how far. (A shift rounds down, below 0, too.)
func (c *caller) seek() (sys.Answer, api.Errno) {
	id, o, e := c.inode(anything)
	if e != api.OK {
		return sys.Answer{}, e
	}
	places := [...]int{0, o.At, c.size(o.Num)}
	from := c.B & 3
	if from >= len(places) {
		return sys.Answer{}, api.ErrInval
	}
	at := places[from] + c.B>>2
	if at < 0 || at > api.MaxSize {
		return sys.Answer{}, api.ErrInval
	}
	c.files.Move(id, at)
	return sys.Answer{N: at}, api.OK
}

func (c *caller) dup() (sys.Answer, api.Errno) {
	id, e := c.fds.Get(c.A)
	if e != api.OK {
		return sys.Answer{}, e
	}
	n, e := c.fds.Put(id)
	if e != api.OK {
		return sys.Answer{}, e
	}
	c.files.Ref(id)
	return sys.Answer{N: n}, api.OK
}

// dup2: the open file is known once more first, so that it stays, if the fd B is the same one.
func (c *caller) dup2() (sys.Answer, api.Errno) {
	id, e := c.fds.Get(c.A)
	if e != api.OK {
		return sys.Answer{}, e
	}
	was, e := c.fds.At(c.B, id)
	if e != api.OK {
		return sys.Answer{}, e
	}
	c.files.Ref(id)
	c.shut(was) // if it was none, nothing is shut
	return sys.Answer{N: c.B}, api.OK
}

func (c *caller) pipe() (sys.Answer, api.Errno) {
	if e := c.room(2); e != api.OK {
		return sys.Answer{}, e
	}
	num, e := c.pipes.Make()
	if e != api.OK {
		return sys.Answer{}, e
	}
	in := c.know(fd.In, num, fd.Read)
	return sys.Answer{N: in, M: c.know(fd.Out, num, fd.Write)}, api.OK
}

func (c *caller) fstat() (sys.Answer, api.Errno) {
	_, o, e := c.inode(anything)
	if e != api.OK {
		return sys.Answer{}, e
	}
	return c.told(o.Num)
}

func (c *caller) list() (sys.Answer, api.Errno) {
	_, o, e := c.inode(fd.Read)
	if e != api.OK {
		return sys.Answer{}, e
	}
	entries, e := c.tree.List(o.Num)
	a := sys.Answer{N: len(entries)}
	for _, x := range entries {
		a.Data = append(a.Data, slices.Concat(little(2, x.Num), little(1, len(x.Name)), []byte(x.Name))...)
	}
	return a, e
}

func (c *caller) truncate() (sys.Answer, api.Errno) {
	_, o, e := c.inode(fd.Write | fd.Append)
	if e != api.OK {
		return sys.Answer{}, e
	}
	return sys.Answer{}, c.tree.Truncate(o.Num, c.B)
}

// fsync: one batch has all that changed, so that one file isn't flushed alone.
func (c *caller) fsync() (sys.Answer, api.Errno) {
	if _, _, e := c.file(anything); e != api.OK {
		return sys.Answer{}, e
	}
	return c.sync()
}
