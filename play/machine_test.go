package play_test

import (
	"fmt"
	"maps"
	"net/url"
	"slices"
	"strconv"
	"strings"
)

// The errors that a kernel tells besides those of names.
const (
	badf, fault, mfile, nfile, again     = 2, 3, 13, 14, 15
	brokenpipe, nochild, nosuch, nopipes = 16, 17, 18, 19
)

// conduit is a pipe.
type conduit struct{ b string }

// opened is an open file: of kind 'f' one of a file or directory, of 'r' and 'w' an end of a pipe.
type opened struct {
	kind           byte
	num, at, flags int
	pipe           *conduit
}

// call is one that is pending.
type call struct {
	op, text   string
	a, b       int
	s, t, data string
}

// process is one, and what it waits for.
type process struct {
	pid, parent, home, code, until int
	zombie, killed, asleep, slept  bool
	fds                            [8]*opened
	call                           *call
}

// machine is what a machine is, without a disk: the tree that a mount may find stands in safe.
type machine struct {
	w         *world
	safe      []*world // as it was last flushed and, if one died, as it was to be
	procs     map[int]*process
	last, now int
	up        bool
}

func newMachine(w *world) *machine {
	m := &machine{w: w, safe: []*world{w.named()}}
	m.boot()
	return m
}

func (m *machine) boot() {
	m.up, m.last, m.now = true, 1, 0
	m.procs = map[int]*process{1: {pid: 1, home: 1}}
}

// flushed: what is there now is safe.
func (m *machine) flushed() { m.safe = []*world{m.w.named()} }

// died: in a flush, so that it hangs on what is kept whether that was done.
func (m *machine) died() {
	m.safe = append(m.safe, m.w.named())
	m.up = false
}

func (m *machine) pids() []int { return slices.Sorted(maps.Keys(m.procs)) }

// files: all that are open.
func (m *machine) files() map[*opened]bool {
	all := map[*opened]bool{}
	for _, p := range m.procs {
		for _, o := range p.fds {
			if o != nil {
				all[o] = true
			}
		}
	}
	return all
}

// ends: how many of a kind a pipe has.
func (m *machine) ends(x *conduit, kind byte) int {
	n := 0
	for o := range m.files() {
		if o.pipe == x && o.kind == kind {
			n++
		}
	}
	return n
}

// bury: what has no name, and nobody knows, is gone.
func (m *machine) bury() {
	known := map[int]bool{}
	for o := range m.files() {
		known[o.num] = true
	}
	for _, p := range m.procs {
		known[p.home] = true
	}
	for num, n := range m.w.nodes {
		if n.links == 0 && !known[num] {
			delete(m.w.nodes, num)
		}
	}
}

// live: a process that hasn't ended.
func (m *machine) live(pid int) *process {
	if p := m.procs[pid]; p != nil && !p.zombie {
		return p
	}
	return nil
}

func (m *machine) end(p *process, code int) string {
	*p = process{pid: p.pid, parent: p.parent, zombie: true, code: code & 255}
	for _, x := range m.procs {
		if x.parent == p.pid {
			x.parent = 1
		}
	}
	maps.DeleteFunc(m.procs, func(_ int, x *process) bool { return x.zombie && x.parent == 1 })
	m.bury()
	return fmt.Sprint(p.pid, " ended")
}

// has: what each call has, in its text.
var has = map[string]string{
	"fork": "", "exit": "a", "wait": "", "kill": "a", "sleep": "a", "getpid": "", "open": "sa", "close": "a", "read": "ab", "write": "ad", "seek": "ab", "dup": "a", "dup2": "ab", "pipe": "", "link": "st",
	"unlink": "s", "rename": "st", "mkdir": "s", "rmdir": "s", "chdir": "s", "stat": "s", "fstat": "a", "list": "a", "truncate": "ab", "sync": "", "fsync": "a", "getcwd": "", "getppid": "", "time": "",
}

func atoi(s string) int {
	n, err := strconv.Atoi(s)
	if err != nil {
		panic(err)
	}
	return n
}

func unescape(s string) string {
	if s == "%" {
		return ""
	}
	text, err := url.PathUnescape(s)
	if err != nil {
		panic(err)
	}
	return text
}

func readCall(words []string) *call {
	c := &call{op: words[0], text: strings.Join(words, " ")}
	for i, x := range has[words[0]] {
		word := words[1+i]
		switch x {
		case 'a':
			c.a = atoi(word)
		case 'b':
			c.b = atoi(word)
		case 's':
			c.s = unescape(word)
		case 't':
			c.t = unescape(word)
		case 'd':
			c.data = unescape(word)
		}
	}
	return c
}

// wrong: by itself.
func (c *call) wrong() int {
	switch c.op {
	case "sleep":
		if c.a < 0 {
			return inval
		}
	case "read", "truncate":
		if c.b < 0 {
			return inval
		}
	case "open":
		switch {
		case c.a < 0, c.a > 63, c.a&7 == 0, c.a&16 != 0 && c.a&8 == 0, c.a&32 != 0 && c.a&6 == 0:
			return inval
		}
	}
	if c.op == "read" && c.b > 4096 || len(c.data) > 4096 || len(c.s) > 4096 || len(c.t) > 4096 {
		return fault
	}
	return 0
}

func failed(e int) string { return fmt.Sprint("error ", e) }

// said: of an error, or of its absence.
func said(e int) string {
	if e != 0 {
		return failed(e)
	}
	return "ok"
}

func ok(n, m int, data string) string {
	switch {
	case data != "":
		return fmt.Sprint("ok ", n, " ", m, " ", escape(data))
	case m != 0:
		return fmt.Sprint("ok ", n, " ", m)
	case n != 0:
		return fmt.Sprint("ok ", n)
	}
	return "ok"
}

func joined(word string, numbers ...int) string {
	for _, n := range numbers {
		word += fmt.Sprint(" ", n)
	}
	return word
}

// do: what a line comes to that isn't about the disk, and isn't one of none.
func (m *machine) do(line string) []string {
	words := strings.Split(line, " ")
	switch words[0] {
	case "issue":
		pid := atoi(words[1])
		if e := m.issue(pid, words[2:]); e != 0 {
			return []string{joined("issue", pid) + " " + failed(e)}
		}
		return []string{joined("issued", pid)}
	case "step":
		return []string{m.step(atoi(words[1]))}
	case "tick":
		return []string{m.tick(atoi(words[1]))}
	case "flush", "checkpoint", "clean":
		for _, word := range words[1:] {
			if atoi(word) >= m.w.g.Segs {
				return []string{failed(inval)}
			}
		}
		m.flushed()
		return []string{"ok"}
	case "dump":
		list := m.w.dump()
		return append([]string{joined("dump", len(list))}, list...)
	case "check":
		return []string{"check 0"}
	case "ready":
		return []string{joined("ready", m.ready()...)}
	}
	pid := atoi(words[0])
	if e := m.issue(pid, words[1:]); e != 0 {
		return []string{fmt.Sprint(pid, " ", failed(e))}
	}
	return []string{m.step(pid)}
}

func (m *machine) issue(pid int, words []string) int {
	p := m.live(pid)
	if p == nil {
		return nosuch
	}
	if p.call != nil {
		return busy
	}
	p.call = readCall(words)
	return 0
}

func (m *machine) tick(n int) string {
	m.now = min(m.now+n, 1<<40)
	m.w.now = max(m.w.now, uint32(min(m.now, 1<<32-1)))
	numbers := []int{m.now}
	for _, pid := range m.pids() {
		if p := m.procs[pid]; p.asleep && p.until <= m.now {
			p.asleep = false
			numbers = append(numbers, pid)
		}
	}
	return joined("tick", numbers...)
}

func (m *machine) ready() []int {
	var list []int
	for _, pid := range m.pids() {
		p := m.procs[pid]
		if !p.zombie && (p.killed || p.call != nil && !m.waits(p)) {
			list = append(list, pid)
		}
	}
	return list
}

// waits: is there nothing yet of what a pending call asks for?
func (m *machine) waits(p *process) bool {
	c := p.call
	if c.wrong() != 0 {
		return false
	}
	switch c.op {
	case "sleep":
		return p.asleep || c.a > 0 && !p.slept
	case "wait":
		children := 0
		for _, x := range m.procs {
			if x.parent == p.pid {
				children++
				if x.zombie {
					return false
				}
			}
		}
		return children > 0
	case "read":
		o := p.open(c.a)
		return o != nil && o.kind == 'r' && c.b > 0 && o.pipe.b == "" && m.ends(o.pipe, 'w') > 0
	case "write":
		o := p.open(c.a)
		return o != nil && o.kind == 'w' && c.data != "" && len(o.pipe.b) == 64 && m.ends(o.pipe, 'r') > 0
	}
	return false
}

func (p *process) open(fd int) *opened {
	if fd < 0 || fd >= len(p.fds) {
		return nil
	}
	return p.fds[fd]
}

func (m *machine) step(pid int) string {
	p := m.live(pid)
	switch {
	case p == nil:
		return joined("step", pid) + " " + failed(nosuch)
	case p.killed:
		return m.end(p, 137)
	case p.call == nil:
		return fmt.Sprint(pid, " idle")
	}
	c := p.call
	if m.waits(p) {
		if c.op == "sleep" && !p.slept {
			p.slept, p.asleep, p.until = true, true, min(m.now+min(c.a, 1<<40), 1<<40)
		}
		return fmt.Sprint(pid, " ", c.text, " blocked")
	}
	p.call, p.slept = nil, false
	if c.op == "exit" && pid != 1 {
		return m.end(p, c.a)
	}
	answer := failed(c.wrong())
	if c.wrong() == 0 {
		answer = m.try(p, c)
	}
	m.bury()
	return fmt.Sprint(pid, " ", c.text, " : ", answer)
}

func (m *machine) try(p *process, c *call) string {
	switch c.op {
	case "open", "pipe", "close", "dup", "dup2":
		return m.tryFd(p, c)
	case "read", "write", "seek", "fstat", "list", "truncate", "fsync":
		return m.tryFile(p, c)
	case "link", "unlink", "rename", "mkdir", "rmdir", "chdir", "stat", "getcwd", "sync":
		return m.tryName(p, c)
	}
	return m.tryProcess(p, c)
}

func (m *machine) tryProcess(p *process, c *call) string {
	switch c.op {
	case "fork":
		if len(m.procs) == 8 {
			return failed(again)
		}
		m.last++
		m.procs[m.last] = &process{pid: m.last, parent: p.pid, home: p.home, fds: p.fds}
		return ok(m.last, 0, "")
	case "exit":
		return failed(inval)
	case "wait":
		for _, pid := range m.pids() {
			if x := m.procs[pid]; x.parent == p.pid && x.zombie {
				delete(m.procs, pid)
				return ok(pid, x.code, "")
			}
		}
		return failed(nochild)
	case "kill":
		x := m.live(c.a)
		switch {
		case x == nil:
			return failed(nosuch)
		case c.a == 1:
			return failed(inval)
		}
		x.killed, x.asleep = true, false
		return "ok"
	case "sleep":
		return "ok"
	case "getpid":
		return ok(p.pid, 0, "")
	case "getppid":
		return ok(p.parent, 0, "")
	}
	return ok(m.now, 0, "") // time
}

func (m *machine) stat(num int) string {
	n := m.w.nodes[num]
	data := []byte{byte(n.kind), byte(n.links), byte(n.links >> 8)}
	for i := range 4 {
		data = append(data, byte(n.time>>(8*i)))
	}
	return ok(num, m.w.sizeOf(num), string(data))
}

func (m *machine) tryName(p *process, c *call) string {
	w := m.w
	switch c.op {
	case "link":
		return said(w.link(p.home, c.s, c.t))
	case "unlink":
		return said(w.unlink(p.home, c.s, 1))
	case "rmdir":
		return said(w.unlink(p.home, c.s, 2))
	case "rename":
		return said(w.rename(p.home, c.s, c.t))
	case "mkdir":
		num, e := w.make(p.home, c.s, 2)
		if e != 0 {
			return failed(e)
		}
		return ok(num, 0, "")
	case "getcwd":
		s, is := w.path(p.home)
		if !is {
			return failed(noent)
		}
		return ok(0, 0, s)
	case "sync":
		m.flushed()
		return "ok"
	}
	num, e := w.walk(p.home, c.s)
	switch {
	case e != 0:
		return failed(e)
	case c.op == "stat":
		return m.stat(num)
	case w.nodes[num].kind == 1:
		return failed(notdir)
	}
	p.home = num
	return "ok"
}

// put: at the least fd that is left.
func (p *process) put(o *opened) int {
	i := slices.Index(p.fds[:], nil)
	p.fds[i] = o
	return i
}

// left: fds of a process.
func (p *process) left() int {
	n := 0
	for _, o := range p.fds {
		if o == nil {
			n++
		}
	}
	return n
}

func (m *machine) tryFd(p *process, c *call) string {
	need := map[string]int{"open": 1, "pipe": 2}[c.op]
	if need > 0 {
		if p.left() < need {
			return failed(mfile)
		}
		if len(m.files())+need > 16 {
			return failed(nfile)
		}
		if c.op == "open" {
			return m.tryOpen(p, c)
		}
		x := &conduit{}
		in := p.put(&opened{kind: 'r', flags: 1, pipe: x})
		return ok(in, p.put(&opened{kind: 'w', flags: 2, pipe: x}), "")
	}
	o := p.open(c.a)
	if o == nil {
		return failed(badf)
	}
	switch c.op {
	case "close":
		p.fds[c.a] = nil
		return "ok"
	case "dup":
		if p.left() == 0 {
			return failed(mfile)
		}
		return ok(p.put(o), 0, "")
	}
	if c.b < 0 || c.b > 7 {
		return failed(badf)
	}
	p.fds[c.b] = o
	return ok(c.b, 0, "")
}

func (m *machine) tryOpen(p *process, c *call) string {
	w := m.w
	num, e := w.walk(p.home, c.s)
	if e == noent && c.a&8 != 0 {
		if num, e = w.make(p.home, c.s, 1); e != 0 {
			return failed(e)
		}
		return ok(p.put(&opened{kind: 'f', num: num, flags: c.a & 7}), 0, "")
	}
	switch {
	case e != 0:
		return failed(e)
	case c.a&16 != 0:
		return failed(exist)
	case w.nodes[num].kind == 2 && c.a&6 != 0:
		return failed(isdir)
	case c.a&32 != 0:
		w.truncate(num, 0)
	}
	return ok(p.put(&opened{kind: 'f', num: num, flags: c.a & 7}), 0, "")
}

func (m *machine) tryFile(p *process, c *call) string {
	o := p.open(c.a)
	need := map[string]int{"read": 1, "list": 1, "write": 6, "truncate": 6}[c.op]
	if o == nil || need != 0 && o.flags&need == 0 {
		return failed(badf)
	}
	if c.op == "fsync" {
		m.flushed()
		return "ok"
	}
	if o.kind != 'f' {
		return m.tryPipe(o, c)
	}
	w := m.w
	switch c.op {
	case "read":
		b, e := w.read(o.num, o.at, c.b)
		if e != 0 {
			return failed(e)
		}
		o.at += len(b)
		return ok(len(b), 0, string(b))
	case "write":
		at := o.at
		if o.flags&4 != 0 {
			at = w.sizeOf(o.num)
		}
		n, e := w.write(o.num, at, []byte(c.data))
		if e != 0 {
			return failed(e)
		}
		o.at = at + n
		return ok(n, 0, "")
	case "seek":
		return m.trySeek(o, c.b)
	case "fstat":
		return m.stat(o.num)
	case "truncate":
		return said(w.truncate(o.num, c.b))
	}
	if w.nodes[o.num].kind == 1 {
		return failed(notdir)
	}
	n, data := 0, ""
	for _, x := range w.nodes[o.num].slots {
		if x.num != 0 {
			n++
			data += string([]byte{byte(x.num), byte(x.num >> 8), byte(len(x.name))}) + x.name
		}
	}
	return ok(n, 0, data)
}

func (m *machine) tryPipe(o *opened, c *call) string {
	switch c.op {
	case "read":
		n := min(c.b, len(o.pipe.b))
		data := o.pipe.b[:n]
		o.pipe.b = o.pipe.b[n:]
		return ok(n, 0, data)
	case "write":
		if c.data != "" && m.ends(o.pipe, 'r') == 0 {
			return failed(brokenpipe)
		}
		n := min(len(c.data), 64-len(o.pipe.b))
		o.pipe.b += c.data[:n]
		return ok(n, 0, "")
	}
	return failed(nopipes)
}

func (m *machine) trySeek(o *opened, b int) string {
	by, way := b/4, b%4
	if way < 0 {
		by, way = by-1, way+4
	}
	switch way {
	case 1:
		by += o.at
	case 2:
		by += m.w.sizeOf(o.num)
	case 3:
		return failed(inval)
	}
	if by < 0 || by > maxSize {
		return failed(inval)
	}
	o.at = by
	return ok(by, 0, "")
}
