package kern_test

import (
	"slices"
	"strings"
	"testing"

	"drumlin/api"
	"drumlin/disk"
	"drumlin/fs"
	"drumlin/kern"
	"drumlin/sys"
	"drumlin/tree"
)

// snap is what a mount must find of a tree: what Root leads to, and the numbers that have names.
type snap struct {
	items []fs.Item
	used  []int
}

func snapOf(t *testing.T, x *tree.Tree) snap {
	t.Helper()
	s := snap{items: dump(t, x)}
	for _, num := range x.Vol().Used() {
		if stat, _ := x.Stat(num); stat.Links > 0 {
			s.used = append(s.used, num)
		}
	}
	return s
}

func (s snap) is(x snap) bool { return fs.Same(s.items, x.items) && slices.Equal(s.used, x.used) }

// P24.5: wherever the disk dies in a process's sync, or in what is like it, and whichever writes are kept: the tree is as it was last flushed, or was to be; what has no name is gone, and a kernel goes on with it.
func TestCrashes(t *testing.T) {
	met := each(t, 6, func(t *testing.T, w *walk) {
		flushed := snapOf(t, w.m.x)
		w.was = &flushed
		for range 60 {
			for range w.r.Intn(25) {
				w.turn(t)
			}
			w.k.Tick(1)
			w.m.tick(1)
			if w.r.Intn(2) > 0 {
				w.d.Arm(w.r.Intn(1 + w.r.Intn(60)))
			}
			ok := w.flush(t)
			w.d.Arm(-1)
			if ok {
				flushed = snapOf(t, w.m.x)
				if w.r.Intn(3) > 0 {
					continue
				}
				for range w.r.Intn(9) {
					w.turn(t)
				}
			} else {
				w.met["died"]++
			}
			w.crash(t)
			if d := w.differs(); d != nil {
				t.Fatalf("P24.5: behind a crash: %s", strings.Join(d, "\n"))
			}
		}
	})
	if met["died"] < 200 || met["old"] == 0 || met["new"] == 0 {
		t.Errorf("P24.5: the disk died %d times, %d, %d: the test is in vain", met["died"], met["old"], met["new"])
	}
}

// flush: by a process's call, or by the volume's own. False: the disk died.
func (w *walk) flush(t *testing.T) bool {
	t.Helper()
	e := api.OK
	switch v := w.k.Tree().Vol(); w.r.Intn(6) {
	case 0:
		e = v.Checkpoint()
	case 1:
		_, e = v.Clean()
	case 2:
		e = v.Flush()
	default:
		k := w.k
		if _, ok := k.Pending(1); ok {
			return w.flush(t)
		}
		k.Issue(1, sys.Call{Op: sys.Sync})
		v, _ := k.Step(1)
		e = v.Answer.Err
	}
	if e != api.OK && e != api.ErrIo {
		t.Fatalf("P24.3: a flush = %v", e)
	}
	return e == api.OK
}

// crash: the disk crashes, and what lies there is mounted, with a kernel on it.
func (w *walk) crash(t *testing.T) {
	t.Helper()
	now := snapOf(t, w.m.x)
	keep := make([]bool, len(w.d.Queue()))
	few := w.r.Intn(4)
	for i := range keep {
		keep[i] = w.r.Intn(3) < few
	}
	w.d.Crash(keep...)
	mount := func(d *disk.Disk) *tree.Tree {
		x, e := tree.Mount(d)
		if e != api.OK {
			t.Fatalf("P24.5: Mount = %v", e)
		}
		return x
	}
	l := kern.Limits{Files: w.m.nfiles, Fds: w.m.nfds, Procs: w.m.nprocs}
	w.m = newModel(mount(w.d.Twin()), l)
	w.k = kern.Boot(mount(w.d), l)
	found := snapOf(t, w.k.Tree())
	switch {
	case found.is(now):
		w.met["new"]++
	case found.is(*w.was):
		w.met["old"]++
	default:
		t.Fatalf("P24.5: %v; was %v, was to be %v", found, *w.was, now)
	}
	if used := w.k.Tree().Vol().Used(); !slices.Equal(used, found.used) {
		t.Fatalf("P24.5: %v are there, but %v have names", used, found.used)
	}
	*w.was = found
}

// P24.1: a disk that is dead: a call does what it does, or tells that, and has changed nothing.
func TestDead(t *testing.T) {
	met := each(t, 12, func(t *testing.T, w *walk) {
		for step := range 300 {
			for range w.r.Intn(4) {
				w.turn(t)
			}
			if step%3 == 0 {
				if e := w.k.Tree().Vol().Flush(); e != api.OK {
					t.Fatalf("P24.3: a flush = %v", e)
				}
			}
			w.dead(t)
			if d := w.differs(); d != nil {
				t.Fatalf("P24.1: of a dead disk: %s", strings.Join(d, "\n"))
			}
		}
	})
	for _, what := range []string{"open", "read", "write", "link", "unlink", "rename", "mkdir", "rmdir", "chdir", "stat", "list", "getcwd"} {
		if met[what+" 20"] == 0 {
			t.Errorf("P24.1: %s never met a dead disk: the test is in vain", what)
		}
	}
}

// dead: a turn, while the disk is dead.
func (w *walk) dead(t *testing.T) {
	t.Helper()
	pid := w.pid()
	p := w.m.live(pid)
	if p == nil || p.killed {
		return
	}
	if p.call == nil {
		c := w.call(p)
		w.k.Issue(pid, c)
		w.m.issue(pid, c)
	}
	if p.call.Op == sys.Sync || p.call.Op == sys.Fsync { // a volume that has met that flushes no more
		return
	}
	name := sys.Name(p.call.Op)
	w.d.Arm(0)
	w.d.Flush()
	v, e := w.k.Step(pid)
	w.d.Crash()
	if e != api.OK {
		t.Fatalf("P24.1: Step of %s = %v", name, e)
	}
	if v.Answer.Err == api.ErrIo {
		w.met[name+" 20"]++
		p.call, p.slept = nil, false
		if v.Answer.Text() != "error 20" || v.What != kern.Done {
			t.Fatalf("P24.1: %s of a dead disk: %v", name, v)
		}
		return
	}
	if want, _ := w.m.step(pid); v.Answer.Text() != want.Answer.Text() || v.What != want.What {
		t.Fatalf("P24.1: %s of a dead disk: %d, %.60q, want %d, %.60q", name, v.What, v.Answer.Text(), want.What, want.Answer.Text())
	}
}

// P24.1: each call that must read of a dead disk tells that, and changes nothing.
func TestDeadCalls(t *testing.T) {
	d, k := boot(t, limits)
	script(t, k, "P24.1", "1 mkdir a = ok 2", "1 open f 11 = ok", "1 write 0 "+strings.Repeat("x", 200)+" = ok 200", "1 seek 0 40 = ok 10", "1 open f 7 = ok 1", "1 open / 1 = ok 2", "1 chdir a = ok", "1 sync = ok")
	was := k.Files().Count()
	for _, call := range []string{"open /f 1", "open /g 11", "open /f 35", "read 0 9", "read 1 9", "write 0 a", "write 1 a", "link /f /g", "unlink /f", "rename /f /g", "mkdir /b", "mkdir b", "rmdir /a", "chdir /a", "chdir ..", "stat /f", "list 2", "truncate 0 100", "getcwd"} {
		d.Arm(0)
		d.Flush()
		script(t, k, "P24.1", "1 "+call+" = error 20")
		d.Crash()
		script(t, k, "P24.1", "known 1 = 0 0 1 2", "home 1 = 0 2", "open 0 = 1 3 10 3 1", "open 1 = 1 3 0 7 1", "used = 1 2 3")
	}
	if k.Files().Count() != was {
		t.Errorf("P24.1: %d files are open, %d were", k.Files().Count(), was)
	}
	d.Arm(0)
	d.Flush()
	script(t, k, "P24.1", "1 close 2 = ok", "1 seek 0 2 = ok 200", "1 fstat 0 = ok 3 200 %01%01%00%03%00%00%00", "1 dup 0 = ok 2", "1 pipe = ok 3 4", "1 fork = ok 2", "1 truncate 0 128 = ok", "1 stat / = ok 1 128 %02%01%00%03%00%00%00", "2 exit 1 = ended")
}

// P24.1: a sync on a dead disk tells that, as does each behind it; nothing that is in memory is lost by it.
func TestSyncDead(t *testing.T) {
	d, k := boot(t, limits)
	script(t, k, "P24.1", "1 open f 11 = ok", "1 sync = ok", "1 write 0 x = ok 1")
	d.Arm(0)
	script(t, k, "P24.1", "1 fsync 0 = error 20", "1 fsync 5 = error 2", "1 fstat 0 = ok 2 1 %01%01%00%03%00%00%00", "1 sync = error 20", "1 seek 0 0 = ok", "1 read 0 1 = ok 1 0 x")
	d.Crash()
	script(t, k, "P24.1", "1 sync = error 20", "1 fsync 0 = error 20")
	x, e := tree.Mount(d)
	if e != api.OK {
		t.Fatalf("P24.5: Mount = %v", e)
	}
	script(t, kern.Boot(x, limits), "P24.5", "1 stat f = ok 2 0 %01%01%00%03%00%00%00", "known 1 = 0")
}

// P24.5: what a sync, or an fsync of anything, flushes is all that was done, by whomever.
func TestSync(t *testing.T) {
	for _, call := range []string{"2 sync", "2 fsync 0", "2 fsync 1", "2 fsync 2"} {
		d, k := boot(t, limits)
		script(t, k, "P24.1", "1 open f 11 = ok", "1 pipe = ok 1 2", "1 fork = ok 2", "1 write 0 hi = ok 2", "1 mkdir a = ok 3", "1 open lost 11 = ok 3", "1 unlink lost = ok", call+" = ok", "1 unlink f = ok")
		d.Crash()
		x, e := tree.Mount(d)
		if e != api.OK {
			t.Fatalf("P24.5: Mount = %v", e)
		}
		script(t, kern.Boot(x, limits), "P24.5", "used = 1 2 3", "1 open f 1 = ok", "1 read 0 9 = ok 2 0 hi", "1 chdir a = ok", "1 getcwd = ok 0 0 /a")
	}
}
