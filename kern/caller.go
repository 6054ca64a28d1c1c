package kern

import (
	"slices"

	"drumlin/api"
	"drumlin/fd"
	"drumlin/proc"
	"drumlin/sys"
)

// caller: a process whose call is tried.
type caller struct {
	*Kernel
	*task
	sys.Call
}

// caller: of what is pending.
func (k *Kernel) caller(t *task) *caller {
	return &caller{k, t, *t.call}
}

// deed: what a call does. Beside an error it has done nothing, and its answer doesn't count.
type deed func(c *caller) (sys.Answer, api.Errno)

// deeds: of all calls.
func deeds() [sys.Time + 1]deed {
	return [...]deed{
		sys.Fork:     (*caller).fork,
		sys.Exit:     (*caller).exit,
		sys.Wait:     (*caller).wait,
		sys.Kill:     (*caller).kill,
		sys.Sleep:    (*caller).sleep,
		sys.Getpid:   (*caller).getpid,
		sys.Open:     (*caller).open,
		sys.Close:    (*caller).close,
		sys.Read:     (*caller).read,
		sys.Write:    (*caller).write,
		sys.Seek:     (*caller).seek,
		sys.Dup:      (*caller).dup,
		sys.Dup2:     (*caller).dup2,
		sys.Pipe:     (*caller).pipe,
		sys.Link:     (*caller).link,
		sys.Unlink:   (*caller).unlink,
		sys.Rename:   (*caller).rename,
		sys.Mkdir:    (*caller).mkdir,
		sys.Rmdir:    (*caller).rmdir,
		sys.Chdir:    (*caller).chdir,
		sys.Stat:     (*caller).stat,
		sys.Fstat:    (*caller).fstat,
		sys.List:     (*caller).list,
		sys.Truncate: (*caller).truncate,
		sys.Sync:     (*caller).sync,
		sys.Fsync:    (*caller).fsync,
		sys.Getcwd:   (*caller).getcwd,
		sys.Getppid:  (*caller).getppid,
		sys.Time:     (*caller).time,
	}
}

// answer: of its call, which is done.
func (c *caller) answer() sys.Answer {
	e := c.Check()
	if e != api.OK {
		return sys.Answer{Err: e}
	}
	a, e := deeds()[c.Op](c)
	if e != api.OK {
		return sys.Answer{Err: e}
	}
	return a
}

// waits: must it wait, as what it asks for isn't there yet? What is wrong with its call needs no waiting.
func (c *caller) waits() bool {
	if c.Check() != api.OK {
		return false
	}
	switch c.Op {
	case sys.Wait:
		return c.awaits()
	case sys.Sleep:
		return c.is(c.pid, proc.Asleep) || !c.slept && c.A > 0
	case sys.Read:
		return c.drained()
	case sys.Write:
		return c.stuffed()
	}
	return false
}

// awaits: has it children, all of which go on?
func (c *caller) awaits() bool {
	children := c.procs.Children(c.pid)
	return len(children) > 0 && !slices.ContainsFunc(children, func(pid int) bool { return c.is(pid, proc.Zombie) })
}

// drained: is it to read of a pipe that is empty, to which somebody may write yet?
func (c *caller) drained() bool {
	_, o, e := c.file(fd.Read)
	if e != api.OK || !piped(o) || c.B == 0 {
		return false
	}
	n, _ := c.pipes.Len(o.Num)
	_, writers, _ := c.pipes.Ends(o.Num)
	return n == 0 && writers > 0
}

// stuffed: is it to write to a pipe that is full, of which somebody may read yet?
func (c *caller) stuffed() bool {
	_, o, e := c.file(fd.Write | fd.Append)
	if e != api.OK || !piped(o) || len(c.Data) == 0 {
		return false
	}
	n, _ := c.pipes.Len(o.Num)
	readers, _, _ := c.pipes.Ends(o.Num)
	return n == api.PipeSize && readers > 0
}
