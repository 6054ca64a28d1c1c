package kern

import (
	"drumlin/api"
	"drumlin/sys"
)

// fork: the child knows and holds all once more.
func (c *caller) fork() (sys.Answer, api.Errno) {
	pid, e := c.procs.Fork(c.pid)
	if e != api.OK {
		return sys.Answer{}, e
	}
	c.add(task{pid: pid, home: c.home, fds: c.fds.Clone()})
	return sys.Answer{N: pid}, api.OK
}

// exit: the step tells that it has ended, not the answer.
func (c *caller) exit() (sys.Answer, api.Errno) {
	return sys.Answer{}, c.end(c.task, c.A)
}

func (c *caller) wait() (sys.Answer, api.Errno) {
	pid, code, e := c.procs.Wait(c.pid)
	return sys.Answer{N: pid, M: code}, e
}

func (c *caller) kill() (sys.Answer, api.Errno) {
	return sys.Answer{}, c.procs.Kill(c.A)
}

// sleep: what there was to be slept is over, or there was nothing.
func (c *caller) sleep() (sys.Answer, api.Errno) {
	return sys.Answer{}, api.OK
}

func (c *caller) getpid() (sys.Answer, api.Errno) {
	return sys.Answer{N: c.pid}, api.OK
}

func (c *caller) getppid() (sys.Answer, api.Errno) {
	p, e := c.procs.Get(c.pid)
	return sys.Answer{N: p.Parent}, e
}

func (c *caller) time() (sys.Answer, api.Errno) {
	return sys.Answer{N: c.procs.Now()}, api.OK
}
