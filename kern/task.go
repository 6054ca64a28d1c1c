package kern

import (
	"drumlin/api"
	"drumlin/fd"
	"drumlin/sys"
)

// task: what a process is beside its place in the table.
type task struct {
	pid, home int // home: its directory's number
	fds       *fd.Set
	call      *sys.Call // what is pending; nil: nothing
	slept     bool      // by this call it fell asleep
}

// find: the task of a process that is live. Who came into the table otherwise than by a call of the kernel's begins as the first process does.
func (k *Kernel) find(pid int) (*task, api.Errno) {
	if e := k.procs.Live(pid); e != api.OK {
		return nil, e
	}
	if k.tasks[pid] == nil {
		k.add(task{pid: pid, home: api.Root, fds: fd.NewSet(k.most.Fds)})
	}
	return k.tasks[pid], api.OK
}

// add: one more, which knows what it knows.
func (k *Kernel) add(t task) {
	for _, id := range t.fds.All() {
		k.files.Ref(id)
	}
	k.tree.Hold(t.home)
	k.tasks[t.pid] = &t
}

// end: a process ends, if it may.
func (k *Kernel) end(t *task, code int) api.Errno {
	if e := k.procs.Exit(t.pid, code); e != api.OK {
		return e
	}
	for _, id := range t.fds.All() {
		k.shut(id)
	}
	k.tree.Drop(t.home)
	delete(k.tasks, t.pid)
	return api.OK
}

// shut: an open file is known once less; who knew it last is the one who held what it is of.
func (k *Kernel) shut(id int) {
	o, last, _ := k.files.Close(id)
	if !last {
		return
	}
	switch o.Kind {
	case fd.Inode:
		k.tree.Drop(o.Num)
	case fd.In:
		k.pipes.Add(o.Num, -1, 0)
	case fd.Out:
		k.pipes.Add(o.Num, 0, -1)
	}
}

// outlook: what a step of it would come to (Done, too, if it is going to end by itself).
func (k *Kernel) outlook(t *task) int {
	switch p, _ := k.procs.Get(t.pid); {
	case p.Killed:
		return Ended
	case t.call == nil:
		return Idle
	case k.caller(t).waits():
		return Blocked
	}
	return Done
}

// rest: it goes on waiting; by a first sleep it falls asleep.
func (k *Kernel) rest(t *task) {
	if t.call.Op == sys.Sleep && !t.slept {
		k.procs.Sleep(t.pid, t.call.A)
		t.slept = true
	}
}

// do: what is pending is done.
func (k *Kernel) do(t *task) sys.Answer {
	c := k.caller(t)
	t.call, t.slept = nil, false
	return c.answer()
}

// is: is a process in this state?
func (k *Kernel) is(pid, state int) bool {
	p, _ := k.procs.Get(pid)
	return p.State == state
}
