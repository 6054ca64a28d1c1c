package proc_test

import (
	"math"
	"slices"
	"testing"

	"drumlin/api"
	"drumlin/proc"
)

// edges are numbers at the edges of what there is, and far off.
var edges = []int{math.MinInt, math.MinInt + 1, -1 << 40, -256, -255, -2, -1, 0, 1, 2, 3, 4, 7, 15, 16, 17, 255, 256, 257, 1<<40 - 1, 1 << 40, 1<<40 + 1, math.MaxInt - 1, math.MaxInt}

// end: later than this it never is.
const end = 1 << 40

// nearest: n, brought among 1 and most.
func nearest(n, most int) int {
	if n < 1 {
		return 1
	}
	if n > most {
		return most
	}
	return n
}

// model is what the document tells of a Table: of each Pid what it is.
type model struct {
	most, last, now int
	all             map[int]proc.Proc
}

func newModel(most int) *model {
	return &model{nearest(most, 16), 1, 0, map[int]proc.Proc{1: {Pid: 1, State: proc.Ready}}}
}

// those: the Pids of all that are so, rising.
func (m *model) those(so func(p proc.Proc) bool) []int {
	var list []int
	for pid, p := range m.all {
		if so(p) {
			list = append(list, pid)
		}
	}
	slices.Sort(list)
	return list
}

func (m *model) children(pid int) []int {
	return m.those(func(p proc.Proc) bool { return p.Parent == pid })
}

func (m *model) live(pid int) api.Errno {
	if p, ok := m.all[pid]; !ok || p.State == proc.Zombie {
		return api.ErrSrch
	}
	return api.OK
}

func (m *model) fork(pid int) (int, api.Errno) {
	if e := m.live(pid); e != api.OK {
		return 0, e
	}
	if len(m.all) == m.most {
		return 0, api.ErrAgain
	}
	m.last++
	m.all[m.last] = proc.Proc{Pid: m.last, Parent: pid, State: proc.Ready}
	return m.last, api.OK
}

func (m *model) exit(pid, code int) api.Errno {
	if e := m.live(pid); e != api.OK {
		return e
	}
	if pid == 1 {
		return api.ErrInval
	}
	m.all[pid] = proc.Proc{Pid: pid, Parent: m.all[pid].Parent, State: proc.Zombie, Code: int(uint8(code))}
	for _, child := range m.children(pid) {
		p := m.all[child]
		if p.Parent = 1; p.State == proc.Zombie {
			delete(m.all, child)
		} else {
			m.all[child] = p
		}
	}
	if m.all[pid].Parent == 1 {
		delete(m.all, pid)
	}
	return api.OK
}

func (m *model) wait(pid int) (int, int, api.Errno) {
	if e := m.live(pid); e != api.OK {
		return 0, 0, e
	}
	children := m.children(pid)
	if len(children) == 0 {
		return 0, 0, api.ErrChild
	}
	for _, child := range children {
		if p := m.all[child]; p.State == proc.Zombie {
			delete(m.all, child)
			return child, p.Code, api.OK
		}
	}
	return 0, 0, api.ErrAgain
}

func (m *model) kill(pid int) api.Errno {
	if e := m.live(pid); e != api.OK {
		return e
	}
	if pid == 1 {
		return api.ErrInval
	}
	p := m.all[pid]
	p.Killed, p.State, p.Until = true, proc.Ready, 0
	m.all[pid] = p
	return api.OK
}

// later: what the time is so many ticks later.
func (m *model) later(ticks int) int {
	if ticks < 0 {
		return m.now
	}
	if ticks > end {
		ticks = end
	}
	return min(m.now+ticks, end)
}

func (m *model) sleep(pid, ticks int) api.Errno {
	if e := m.live(pid); e != api.OK {
		return e
	}
	p := m.all[pid]
	if p.State == proc.Asleep {
		return api.ErrBusy
	}
	if ticks >= 1 {
		p.State, p.Until = proc.Asleep, m.later(ticks)
		m.all[pid] = p
	}
	return api.OK
}

func (m *model) tick(n int) []int {
	m.now = m.later(n)
	list := m.those(func(p proc.Proc) bool { return p.State == proc.Asleep && p.Until <= m.now })
	for _, pid := range list {
		p := m.all[pid]
		p.State, p.Until = proc.Ready, 0
		m.all[pid] = p
	}
	return list
}

// both are a Table and its model: each call is done by both, and answers alike.
type both struct {
	t *testing.T
	p *proc.Table
	m *model
}

func start(t *testing.T, most int) both {
	t.Helper()
	b := both{t, proc.New(most), newModel(most)}
	b.same()
	return b
}

// same: is all that can be told of processes, and changes nothing, what the model tells?
func (b both) same() {
	b.t.Helper()
	if got, want := b.p.Pids(), b.m.those(func(proc.Proc) bool { return true }); !slices.Equal(got, want) {
		b.t.Fatalf("P22.1: Pids = %v; want %v", got, want)
	}
	if b.p.Now() != b.m.now {
		b.t.Fatalf("P22.1: Now = %d; want %d", b.p.Now(), b.m.now)
	}
	for _, pid := range edges {
		b.sameOne(pid)
	}
	for pid := b.m.last - 20; pid < b.m.last+3; pid++ {
		b.sameOne(pid)
	}
	b.family()
}

func (b both) sameOne(pid int) {
	b.t.Helper()
	p, e := b.p.Get(pid)
	g := api.OK
	want, ok := b.m.all[pid]
	if !ok {
		g = api.ErrSrch
	}
	if p != want || e != g {
		b.t.Fatalf("P22.1: Get(%d) = %+v, %v; want %+v, %v", pid, p, e, want, g)
	}
	if e, g := b.p.Live(pid), b.m.live(pid); e != g {
		b.t.Fatalf("P22.1: Live(%d) = %v; want %v", pid, e, g)
	}
	if got, want := b.p.Children(pid), b.m.children(pid); !slices.Equal(got, want) {
		b.t.Fatalf("P22.1: Children(%d) = %v; want %v", pid, got, want)
	}
}

// family: what holds of all processes, whatever was done.
func (b both) family() {
	b.t.Helper()
	pids := b.p.Pids()
	if len(pids) < 1 || len(pids) > b.m.most || pids[0] != 1 {
		b.t.Fatalf("P22.3: Pids = %v, where %d may be", pids, b.m.most)
	}
	for i, pid := range pids[1:] {
		p, e := b.p.Get(pid)
		parent, g := b.p.Get(p.Parent)
		if e != api.OK || g != api.OK || parent.State == proc.Zombie || p.State == proc.Zombie && p.Parent == 1 || pid <= pids[i] {
			b.t.Fatalf("P22.2: %+v, whose Parent is %+v; Pids = %v", p, parent, pids)
		}
	}
}

func (b both) fork(pid int) (int, api.Errno) {
	b.t.Helper()
	n, e := b.p.Fork(pid)
	if want, g := b.m.fork(pid); n != want || e != g {
		b.t.Fatalf("P22.1: Fork(%d) = %d, %v; want %d, %v", pid, n, e, want, g)
	}
	return n, e
}

func (b both) exit(pid, code int) api.Errno {
	b.t.Helper()
	e := b.p.Exit(pid, code)
	if g := b.m.exit(pid, code); e != g {
		b.t.Fatalf("P22.1: Exit(%d, %d) = %v; want %v", pid, code, e, g)
	}
	return e
}

func (b both) wait(pid int) api.Errno {
	b.t.Helper()
	n, code, e := b.p.Wait(pid)
	if want, c, g := b.m.wait(pid); n != want || code != c || e != g {
		b.t.Fatalf("P22.1: Wait(%d) = %d, %d, %v; want %d, %d, %v", pid, n, code, e, want, c, g)
	}
	return e
}

func (b both) kill(pid int) api.Errno {
	b.t.Helper()
	e := b.p.Kill(pid)
	if g := b.m.kill(pid); e != g {
		b.t.Fatalf("P22.1: Kill(%d) = %v; want %v", pid, e, g)
	}
	return e
}

func (b both) sleep(pid, ticks int) api.Errno {
	b.t.Helper()
	e := b.p.Sleep(pid, ticks)
	if g := b.m.sleep(pid, ticks); e != g {
		b.t.Fatalf("P22.1: Sleep(%d, %d) = %v; want %v", pid, ticks, e, g)
	}
	return e
}

func (b both) tick(n int) {
	b.t.Helper()
	got := b.p.Tick(n)
	if want := b.m.tick(n); !slices.Equal(got, want) {
		b.t.Fatalf("P22.1: Tick(%d) = %v; want %v", n, got, want)
	}
}
