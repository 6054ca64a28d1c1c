package kern_test

import (
	"maps"
	"slices"

	"drumlin/api"
	"drumlin/fd"
	"drumlin/kern"
	"drumlin/proc"
	"drumlin/sys"
	"drumlin/tree"
)

// open is an open file. How often it is known is counted, whenever it is asked for.
type open struct{ id, kind, num, at, flags int }

// process is one, with what it waits for.
type process struct {
	pid, parent, code, until, home int
	zombie, killed, asleep, slept  bool
	fds                            map[int]*open
	call                           *sys.Call
}

// model is a kernel as the document tells it, on a tree that is never flushed. What is held, and which ends a pipe has, is counted of what is known.
type model struct {
	x                    *tree.Tree
	nfiles, nfds, nprocs int
	last, now            int
	procs                map[int]*process
	bytes                map[int][]byte // of each pipe that is there
	held                 map[int]int    // how often the tree holds a number for it
}

func within(n, most int) int {
	switch {
	case n < 1:
		return 1
	case n > most:
		return most
	}
	return n
}

func newModel(x *tree.Tree, l kern.Limits) *model {
	m := &model{x: x, nfiles: within(l.Files, 64), nfds: within(l.Fds, 16), nprocs: within(l.Procs, 16), last: 1, procs: map[int]*process{}, bytes: map[int][]byte{}, held: map[int]int{}}
	m.procs[1] = &process{pid: 1, home: 1, fds: map[int]*open{}}
	m.settle()
	return m
}

// pids: of all processes, rising.
func (m *model) pids() []int { return slices.Sorted(maps.Keys(m.procs)) }

// live: the process of a Pid that hasn't ended.
func (m *model) live(pid int) *process {
	if p := m.procs[pid]; p != nil && !p.zombie {
		return p
	}
	return nil
}

// files: all open files by their numbers, and how often they are known.
func (m *model) files() (map[int]*open, map[int]int) {
	all, refs := map[int]*open{}, map[int]int{}
	for _, p := range m.procs {
		for _, o := range p.fds {
			all[o.id] = o
			refs[o.id]++
		}
	}
	return all, refs
}

// ends: how many a pipe has.
func (m *model) ends(num int) (readers, writers int) {
	all, _ := m.files()
	for _, o := range all {
		if o.num == num && o.kind == fd.In {
			readers++
		}
		if o.num == num && o.kind == fd.Out {
			writers++
		}
	}
	return readers, writers
}

// settle: what nobody knows any more is gone, and what is known is held.
func (m *model) settle() {
	for num := range maps.Clone(m.bytes) {
		if r, w := m.ends(num); r+w == 0 {
			delete(m.bytes, num)
		}
	}
	want := map[int]int{}
	all, _ := m.files()
	for _, o := range all {
		if o.kind == fd.Inode {
			want[o.num]++
		}
	}
	for _, p := range m.procs {
		if !p.zombie {
			want[p.home]++
		}
	}
	for num, n := range want {
		for m.held[num] < n {
			m.x.Hold(num)
			m.held[num]++
		}
	}
	for num := range maps.Clone(m.held) {
		for m.held[num] > want[num] {
			m.x.Drop(num)
			m.held[num]--
		}
	}
}

// put: an open file comes to the least fd that is left.
func (p *process) put(o *open) int {
	n := 0
	for p.fds[n] != nil {
		n++
	}
	p.fds[n] = o
	return n
}

// opened: a new open file, at the least fd.
func (m *model) opened(p *process, kind, num, flags int) int {
	all, _ := m.files()
	id := 0
	for all[id] != nil {
		id++
	}
	return p.put(&open{id, kind, num, 0, flags})
}

// end: a process ends, and its children go to 1.
func (m *model) end(p *process, code int) {
	q := &process{pid: p.pid, parent: p.parent, code: ((code % 256) + 256) % 256, zombie: true}
	m.procs[p.pid] = q
	for _, x := range m.procs {
		if x.parent == p.pid {
			x.parent = 1
		}
	}
	for pid, x := range maps.Clone(m.procs) {
		if x.zombie && x.parent == 1 {
			delete(m.procs, pid)
		}
	}
	m.settle()
}

func (m *model) issue(pid int, c sys.Call) api.Errno {
	p := m.live(pid)
	if p == nil {
		return api.ErrSrch
	}
	if p.call != nil {
		return api.ErrBusy
	}
	c = c.Plain()
	p.call = &c
	return api.OK
}

func (m *model) tick(n int) []int {
	m.now = min(m.now+min(max(n, 0), 1<<40), 1<<40)
	m.x.Vol().SetTime(uint32(min(m.now, 1<<32-1)))
	var woken []int
	for _, pid := range m.pids() {
		if p := m.procs[pid]; p.asleep && p.until <= m.now {
			p.asleep, p.until = false, 0
			woken = append(woken, pid)
		}
	}
	return woken
}

// step: as the document tells it. (What is refused by itself is refused by sys.Check, of layer 23.)
func (m *model) step(pid int) (kern.Event, api.Errno) {
	p := m.live(pid)
	if p == nil {
		return kern.Event{}, api.ErrSrch
	}
	if p.killed {
		m.end(p, 137)
		return kern.Event{Pid: pid, What: kern.Ended}, api.OK
	}
	if p.call == nil {
		return kern.Event{Pid: pid, What: kern.Idle}, api.OK
	}
	c := *p.call
	if e := c.Check(); e != api.OK {
		return m.done(p, sys.Answer{Err: e}), api.OK
	}
	if c.Op == sys.Exit && pid != 1 {
		m.end(p, c.A)
		return kern.Event{Pid: pid, What: kern.Ended}, api.OK
	}
	a, wait := m.try(p, c)
	if wait {
		return kern.Event{Pid: pid, What: kern.Blocked}, api.OK
	}
	return m.done(p, a), api.OK
}

func (m *model) done(p *process, a sys.Answer) kern.Event {
	p.call, p.slept = nil, false
	if a.Err != api.OK {
		a = sys.Answer{Err: a.Err}
	}
	m.settle()
	return kern.Event{Pid: p.pid, What: kern.Done, Answer: a}
}

// try: a call that may be; true: it must wait.
func (m *model) try(p *process, c sys.Call) (sys.Answer, bool) {
	switch c.Op {
	case sys.Open, sys.Close, sys.Read, sys.Write, sys.Seek, sys.Dup, sys.Dup2, sys.Pipe, sys.Fstat, sys.List, sys.Truncate, sys.Fsync:
		return m.tryFd(p, c)
	case sys.Fork, sys.Exit, sys.Wait, sys.Kill, sys.Sleep, sys.Getpid, sys.Getppid, sys.Time:
		return m.tryProc(p, c)
	}
	return m.tryName(p, c), false
}

func fail(e api.Errno) sys.Answer { return sys.Answer{Err: e} }

func (m *model) tryProc(p *process, c sys.Call) (sys.Answer, bool) {
	switch c.Op {
	case sys.Fork:
		if len(m.procs) >= m.nprocs {
			return fail(api.ErrAgain), false
		}
		m.last++
		m.procs[m.last] = &process{pid: m.last, parent: p.pid, home: p.home, fds: maps.Clone(p.fds)}
		return sys.Answer{N: m.last}, false
	case sys.Exit:
		return fail(api.ErrInval), false
	case sys.Wait:
		children := 0
		for _, pid := range m.pids() {
			x := m.procs[pid]
			if x.parent != p.pid {
				continue
			}
			children++
			if x.zombie {
				delete(m.procs, pid)
				return sys.Answer{N: pid, M: x.code}, false
			}
		}
		return fail(api.ErrChild), children > 0
	case sys.Kill:
		return fail(m.kill(c.A)), false
	case sys.Sleep:
		if !p.slept && c.A > 0 {
			p.slept, p.asleep, p.until = true, true, min(m.now+min(c.A, 1<<40), 1<<40)
		}
		return sys.Answer{}, p.asleep
	case sys.Getppid:
		return sys.Answer{N: p.parent}, false
	case sys.Time:
		return sys.Answer{N: m.now}, false
	}
	return sys.Answer{N: p.pid}, false
}

func (m *model) kill(pid int) api.Errno {
	p := m.live(pid)
	switch {
	case p == nil:
		return api.ErrSrch
	case pid == 1:
		return api.ErrInval
	}
	p.killed, p.asleep, p.until = true, false, 0
	return api.OK
}

func stat(s tree.Stat) sys.Answer {
	t := s.Time
	return sys.Answer{N: s.Num, M: s.Size, Data: []byte{byte(s.Kind), byte(s.Links), byte(s.Links >> 8), byte(t), byte(t >> 8), byte(t >> 16), byte(t >> 24)}}
}

func (m *model) tryName(p *process, c sys.Call) sys.Answer {
	switch c.Op {
	case sys.Link:
		return fail(m.x.Link(p.home, c.S, c.T))
	case sys.Unlink:
		return fail(m.x.Unlink(p.home, c.S))
	case sys.Rename:
		return fail(m.x.Rename(p.home, c.S, c.T))
	case sys.Mkdir:
		num, e := m.x.Make(p.home, c.S, api.Dir)
		return sys.Answer{Err: e, N: num}
	case sys.Rmdir:
		return fail(m.x.Rmdir(p.home, c.S))
	case sys.Getcwd:
		path, e := m.x.Path(p.home)
		return sys.Answer{Err: e, Data: []byte(path)}
	case sys.Sync:
		return sys.Answer{}
	}
	num, e := m.x.Walk(p.home, c.S)
	if e != api.OK {
		return fail(e)
	}
	s, _ := m.x.Stat(num)
	if c.Op == sys.Stat {
		return stat(s)
	}
	if s.Kind != api.Dir {
		return fail(api.ErrNotdir)
	}
	p.home = num
	return sys.Answer{}
}

// flag: which of the flags of an open file a call needs one of; 0: none.
func flag(op int) int {
	switch op {
	case sys.Read, sys.List:
		return 1
	case sys.Write, sys.Truncate:
		return 2 + 4
	}
	return 0
}

func (m *model) tryFd(p *process, c sys.Call) (sys.Answer, bool) {
	if c.Op == sys.Open || c.Op == sys.Pipe {
		return m.tryOpen(p, c), false
	}
	o := p.fds[c.A]
	if o == nil || flag(c.Op) != 0 && o.flags&flag(c.Op) == 0 {
		return fail(api.ErrBadf), false
	}
	if o.kind != fd.Inode && (c.Op == sys.Read || c.Op == sys.Write) {
		return m.tryPipe(o, c)
	}
	if o.kind != fd.Inode && slices.Contains([]int{sys.Seek, sys.Fstat, sys.List, sys.Truncate}, c.Op) {
		return fail(api.ErrSpipe), false
	}
	s, _ := m.x.Stat(o.num)
	switch c.Op {
	case sys.Close:
		delete(p.fds, c.A)
	case sys.Dup:
		if len(p.fds) == m.nfds {
			return fail(api.ErrMfile), false
		}
		return sys.Answer{N: p.put(o)}, false
	case sys.Dup2:
		if c.B < 0 || c.B >= m.nfds {
			return fail(api.ErrBadf), false
		}
		p.fds[c.B] = o
		return sys.Answer{N: c.B}, false
	case sys.Seek:
		return o.seek(c.B, s.Size), false
	case sys.Read:
		b, e := m.x.Read(o.num, o.at, c.B)
		o.at += len(b)
		return sys.Answer{Err: e, N: len(b), Data: b}, false
	case sys.Write:
		at := o.at
		if o.flags >= 4 {
			at = s.Size
		}
		n, e := m.x.Write(o.num, at, c.Data)
		if e == api.OK {
			o.at = at + n
		}
		return sys.Answer{Err: e, N: n}, false
	case sys.Fstat:
		return stat(s), false
	case sys.List:
		list, e := m.x.List(o.num)
		a := sys.Answer{Err: e, N: len(list)}
		for _, x := range list {
			a.Data = append(a.Data, byte(x.Num), byte(x.Num>>8), byte(len(x.Name)))
			a.Data = append(a.Data, x.Name...)
		}
		return a, false
	case sys.Truncate:
		return fail(m.x.Truncate(o.num, c.B)), false
	}
	return sys.Answer{}, false
}

func (o *open) seek(b, size int) sys.Answer {
	way := ((b % 4) + 4) % 4
	by := (b - way) / 4
	if way == 3 {
		return fail(api.ErrInval)
	}
	at := []int{0, o.at, size}[way] + by
	if at < 0 || at > api.MaxSize {
		return fail(api.ErrInval)
	}
	o.at = at
	return sys.Answer{N: at}
}

func (m *model) tryPipe(o *open, c sys.Call) (sys.Answer, bool) {
	readers, writers := m.ends(o.num)
	b := m.bytes[o.num]
	if c.Op == sys.Read {
		n := min(c.B, len(b))
		m.bytes[o.num] = b[n:]
		return sys.Answer{N: n, Data: b[:n]}, n == 0 && c.B > 0 && writers > 0
	}
	if len(c.Data) > 0 && readers == 0 {
		return fail(api.ErrPipe), false
	}
	n := min(len(c.Data), 64-len(b))
	m.bytes[o.num] = slices.Concat(b, c.Data[:n])
	return sys.Answer{N: n}, n == 0 && len(c.Data) > 0
}

func (m *model) tryOpen(p *process, c sys.Call) sys.Answer {
	need := 1
	if c.Op == sys.Pipe {
		need = 2
	}
	all, _ := m.files()
	if len(p.fds)+need > m.nfds {
		return fail(api.ErrMfile)
	}
	if len(all)+need > m.nfiles {
		return fail(api.ErrNfile)
	}
	if c.Op == sys.Pipe {
		num := 1
		for _, ok := m.bytes[num]; ok; _, ok = m.bytes[num] {
			num++
		}
		m.bytes[num] = nil
		in := m.opened(p, fd.In, num, 1)
		return sys.Answer{N: in, M: m.opened(p, fd.Out, num, 2)}
	}
	num, e := m.x.Walk(p.home, c.S)
	switch s, _ := m.x.Stat(num); {
	case e == api.ErrNoent && c.A&sys.OCreate > 0:
		if num, e = m.x.Make(p.home, c.S, api.File); e != api.OK {
			return fail(e)
		}
	case e != api.OK:
		return fail(e)
	case c.A&sys.OExcl > 0:
		return fail(api.ErrExist)
	case s.Kind == api.Dir && c.A&(sys.OWrite|sys.OAppend) > 0:
		return fail(api.ErrIsdir)
	case c.A&sys.OTrunc > 0:
		m.x.Truncate(num, 0)
	}
	return sys.Answer{N: m.opened(p, fd.Inode, num, c.A%8)}
}

// state of a process, as layer 22 has it.
func (p *process) proc() proc.Proc {
	x := proc.Proc{Pid: p.pid, Parent: p.parent, State: proc.Ready, Code: p.code, Until: p.until, Killed: p.killed}
	if p.zombie {
		x.State = proc.Zombie
	}
	if p.asleep {
		x.State = proc.Asleep
	}
	return x
}
