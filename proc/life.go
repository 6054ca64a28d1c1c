package proc

import (
	"slices"

	"drumlin/api"
)

// Fork: a child.
func (t *Table) Fork(pid int) (int, api.Errno) {
	if e := t.Live(pid); e != api.OK {
		return 0, e
	}
	if len(t.list) >= t.most {
		return 0, api.ErrAgain
	}
	t.last++
	t.list = append(t.list, Proc{Pid: t.last, Parent: pid, State: Ready})
	return t.last, api.OK
}

// Exit: it is a Zombie.
func (t *Table) Exit(pid, code int) api.Errno {
	p, e := t.mortal(pid)
	if e != api.OK {
		return e
	}
	*p = Proc{Pid: pid, Parent: p.Parent, State: Zombie, Code: code & 0xff}
	t.orphan(pid)
	t.list = slices.DeleteFunc(t.list, func(p Proc) bool { return p.State == Zombie && p.Parent == first })
	return api.OK
}

// orphan: the children of one that ended have another Parent.
func (t *Table) orphan(pid int) {
	for i := range t.list {
		if t.list[i].Parent == pid {
			t.list[i].Parent = first
		}
	}
}

// Wait: a child isn't there any more.
func (t *Table) Wait(pid int) (int, int, api.Errno) {
	if e := t.Live(pid); e != api.OK {
		return 0, 0, e
	}
	if len(t.Children(pid)) == 0 {
		return 0, 0, api.ErrChild
	}
	i := slices.IndexFunc(t.list, func(p Proc) bool { return p.State == Zombie && p.Parent == pid })
	if i < 0 {
		return 0, 0, api.ErrAgain
	}
	child := t.list[i]
	t.list = slices.Delete(t.list, i, i+1)
	return child.Pid, child.Code, api.OK
}

// Kill: it is to end.
func (t *Table) Kill(pid int) api.Errno {
	p, e := t.mortal(pid)
	if e != api.OK {
		return e
	}
	p.Killed = true
	wake(p)
	return api.OK
}

// wake: it waits for nothing. (One that is live, and isn't Asleep, is Ready as it is.)
func wake(p *Proc) {
	p.State, p.Until = Ready, 0
}

// Sleep: it is Asleep.
func (t *Table) Sleep(pid, ticks int) api.Errno {
	p, e := t.live(pid)
	if e != api.OK {
		return e
	}
	if p.State == Asleep {
		return api.ErrBusy
	}
	if ticks > 0 {
		p.State, p.Until = Asleep, t.after(ticks)
	}
	return api.OK
}

// after: what the time is then. (Its room is reckoned first, as the sum might have none.)
func (t *Table) after(ticks int) int {
	return t.now + min(max(ticks, 0), latest-t.now)
}

// Tick: the time goes on.
func (t *Table) Tick(n int) []int {
	t.now = t.after(n)
	woken := t.those(func(p Proc) bool { return p.State == Asleep && p.Until <= t.now })
	for _, pid := range woken {
		p, _ := t.find(pid)
		wake(p)
	}
	return woken
}
