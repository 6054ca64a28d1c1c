package kern_test

import (
	"fmt"
	"math"
	"math/rand"
	"reflect"
	"slices"
	"strings"
	"testing"

	"drumlin/api"
	"drumlin/disk"
	"drumlin/fd"
	"drumlin/fs"
	"drumlin/geom"
	"drumlin/kern"
	"drumlin/sys"
	"drumlin/tree"
)

// walk is a random walk of a kernel and its model.
type walk struct {
	d   *disk.Disk
	k   *kern.Kernel
	m   *model
	r   *rand.Rand
	met map[string]int // how often each call had each error
	was *snap          // what was flushed last, if that is asked for
}

func format(t *testing.T, g geom.Geom) (*disk.Disk, *tree.Tree) {
	t.Helper()
	d, e := disk.New(g.Sectors())
	if e != api.OK {
		t.Fatalf("no disk of %v: %v", g, e)
	}
	x, e := tree.Format(d, g, 3)
	if e != api.OK {
		t.Fatalf("no tree of %v: %v", g, e)
	}
	return d, x
}

func newWalk(t *testing.T, g geom.Geom, l kern.Limits, seed int64) *walk {
	t.Helper()
	d, x := format(t, g)
	_, y := format(t, g)
	return &walk{d: d, k: kern.Boot(x, l), m: newModel(y, l), r: rand.New(rand.NewSource(seed)), met: map[string]int{}}
}

// one of a list.
func one[T any](r *rand.Rand, list ...T) T { return list[r.Intn(len(list))] }

// pid: mostly one that is there.
func (w *walk) pid() int {
	if w.r.Intn(12) == 0 {
		return one(w.r, -1, 0, w.m.last, w.m.last+1, w.r.Intn(w.m.last+1), math.MaxInt, math.MinInt)
	}
	return one(w.r, w.m.pids()...)
}

// fd: mostly one that a process knows, or near one.
func (w *walk) fd(p *process) int {
	if len(p.fds) > 0 && w.r.Intn(10) > 0 {
		n := w.r.Intn(w.m.nfds)
		for p.fds[n] == nil {
			n = (n + 1) % w.m.nfds
		}
		return n
	}
	return one(w.r, w.r.Intn(w.m.nfds), w.r.Intn(w.m.nfds), w.m.nfds, -1, math.MaxInt, math.MinInt)
}

func (w *walk) path() string {
	if w.r.Intn(12) == 0 {
		return one(w.r, "", "/", "..", ".", "/..", "a\x00", strings.Repeat("y", 27), strings.Repeat("a/", 33), strings.Repeat("/", 256), strings.Repeat("z", 4097))
	}
	path := one(w.r, "", "", "/", "../")
	for {
		path += one(w.r, "a", "b", "c", "d", "f", "g")
		if w.r.Intn(3) > 0 {
			break
		}
		path += "/"
	}
	if w.r.Intn(15) == 0 {
		path += one(w.r, "/", "/.", "/..")
	}
	return path
}

func (w *walk) bytes() []byte {
	b := make([]byte, one(w.r, 0, 1, 5, w.r.Intn(50), w.r.Intn(100), w.r.Intn(100), w.r.Intn(2000), 4096, 4097))
	w.r.Read(b)
	return b
}

// ops are the calls, those more often of which more hangs.
var ops = []int{
	sys.Fork, sys.Fork, sys.Fork, sys.Fork, sys.Exit, sys.Wait, sys.Wait, sys.Kill, sys.Sleep, sys.Getpid, sys.Open, sys.Open, sys.Open, sys.Open, sys.Open, sys.Close, sys.Close, sys.Close,
	sys.Read, sys.Read, sys.Read, sys.Write, sys.Write, sys.Write, sys.Write, sys.Seek, sys.Dup, sys.Dup2, sys.Pipe, sys.Link, sys.Unlink, sys.Unlink, sys.Rename, sys.Rename, sys.Mkdir, sys.Mkdir,
	sys.Rmdir, sys.Chdir, sys.Chdir, sys.Stat, sys.Fstat, sys.List, sys.Truncate, sys.Sync, sys.Fsync, sys.Getcwd, sys.Getppid, sys.Time, 0, 30,
}

// call: any, of a process; mostly with what its Op hasn't, too.
func (w *walk) call(p *process) sys.Call {
	c := sys.Call{Op: one(w.r, ops...), A: w.fd(p), B: w.fd(p), S: w.path(), T: w.path(), Data: w.bytes()}
	if o := p.fds[c.A]; p.pid == 1 && o != nil && o.kind != fd.Inode && w.r.Intn(4) > 0 { // so that 1, which can't be killed, doesn't wait for ever
		c.Op = one(w.r, sys.Close, sys.Fork, sys.Open, sys.Seek)
	}
	switch c.Op {
	case sys.Open:
		c.A = one(w.r, 1, 2, 3, 3, 9, 11, 11, 11, 12, 13, 27, 43, 46, 4, 7, 15, 36, 59, w.r.Intn(64), -1, 64)
		if w.r.Intn(5) == 0 { // mostly a directory
			c.A, c.S = 1, one(w.r, ".", "..", "/", "a", "b")
		}
	case sys.Exit:
		c.A = one(w.r, 0, 7, 255, 256, 1000, -1, math.MinInt, math.MaxInt)
	case sys.Kill:
		c.A = w.pid()
	case sys.Sleep:
		c.A = one(w.r, 0, 1, 2, 3, 5, 9, -1, math.MinInt)
	case sys.Read:
		c.B = one(w.r, 0, 1, 10, w.r.Intn(100), w.r.Intn(5000), -1, 4096, 4097)
	case sys.Seek:
		c.B = one(w.r, 0, w.r.Intn(2000), w.r.Intn(2000)&^3, -w.r.Intn(2000), w.r.Intn(4*api.MaxSize+100), 4*api.MaxSize, 4*api.MaxSize+4, math.MaxInt-w.r.Intn(5), math.MinInt+w.r.Intn(5))
	case sys.Truncate:
		c.B = one(w.r, 0, w.r.Intn(200), w.r.Intn(5000), api.MaxSize, api.MaxSize+1, -1)
	}
	return c
}

func number(e api.Errno) string { return fmt.Sprintf("%02d", int(e)) }

// turn: a process has its turn, most often with another call if none is pending.
func (w *walk) turn(t *testing.T) {
	t.Helper()
	pid := w.pid()
	if p := w.m.procs[pid]; p != nil && w.r.Intn(8) > 0 {
		c := w.call(p)
		if e, want := w.k.Issue(pid, c), w.m.issue(pid, c); e != want {
			t.Fatalf("P24.1: Issue(%d, %.60q) = %v, want %v", pid, c.Text(), e, want)
		}
		clear(c.Data) // it isn't kept
	}
	w.step(t, pid)
}

// step: of both; Ready tells what it comes to.
func (w *walk) step(t *testing.T, pid int) {
	t.Helper()
	c, _ := w.k.Pending(pid)
	ready := slices.Contains(w.k.Ready(), pid)
	v, e := w.k.Step(pid)
	want, f := w.m.step(pid)
	if v.Answer.Text() != want.Answer.Text() || v.Pid != want.Pid || v.What != want.What || e != f {
		t.Fatalf("P24.1: Step(%d), of %.60q, %d: %d, %d, %.60q, %v; want %d, %.60q, %v", pid, c.Text(), c.A, v.Pid, v.What, v.Answer.Text(), e, want.What, want.Answer.Text(), f)
	}
	if ready != (v.What == kern.Done || v.What == kern.Ended) {
		t.Fatalf("P24.4: Ready of %d, whose call is %.60q, is %v; its step came to %d", pid, c.Text(), ready, v.What)
	}
	what := sys.Name(c.Op)
	switch v.What {
	case kern.Done:
		w.met[what+" "+number(v.Answer.Err)]++
		if w.was != nil && v.Answer.Err == api.OK && (c.Op == sys.Sync || c.Op == sys.Fsync) {
			*w.was = snapOf(t, w.m.x)
		}
	case kern.Blocked:
		w.met[what+" blocked"]++
	case kern.Ended:
		w.met["ended"]++
	}
}

// other: what is done besides: the time goes on; what is flushed, or cleaned, changes nothing.
func (w *walk) other(t *testing.T) {
	t.Helper()
	v := w.k.Tree().Vol()
	e := api.OK
	switch w.r.Intn(8) {
	case 0:
		e = v.Flush()
	case 1:
		e = v.Checkpoint()
	case 2:
		_, e = v.Clean()
	case 3:
		if pid := one(w.r, w.m.pids()...); w.r.Intn(1+len(w.k.Ready())) == 0 { // who waits for ever ends
			if e, want := w.k.Procs().Kill(pid), w.m.kill(pid); e != want {
				t.Fatalf("P24.1: Kill(%d) = %v, want %v", pid, e, want)
			}
		}
	default:
		n := one(w.r, -1, 0, 1, 1, 2, 3)
		if got, want := w.k.Tick(n), w.m.tick(n); !slices.Equal(got, want) {
			t.Fatalf("P24.1: Tick(%d) = %v, want %v", n, got, want)
		}
	}
	if e != api.OK {
		t.Fatalf("P24.3: a flush, or what is like it: %v", e)
	}
}

// differs: what of a kernel isn't as its model has it; none: nothing.
func (w *walk) differs() []string {
	var list []string
	is := func(what string, got, want any) {
		if !reflect.DeepEqual(got, want) {
			list = append(list, fmt.Sprintf("%s: %v; want %v", what, got, want))
		}
	}
	w.lookProcs(is)
	w.lookFiles(is)
	v, u := w.k.Tree().Vol(), w.m.x.Vol()
	is("the time", v.Time(), u.Time())
	is("the cost", v.Cost(), u.Cost())
	is("used", v.Used(), u.Used())
	for _, num := range u.Used() {
		s, e := w.k.Tree().Stat(num)
		x, f := w.m.x.Stat(num)
		is("what a number is", []any{s, e}, []any{x, f})
	}
	return list
}

func (w *walk) lookProcs(is func(what string, got, want any)) {
	is("processes", w.k.Procs().Pids(), w.m.pids())
	is("the time of processes", w.k.Procs().Now(), w.m.now)
	for pid := -1; pid <= w.m.last+1; pid++ {
		known, e := w.k.Known(pid)
		home, f := w.k.Home(pid)
		c, ok := w.k.Pending(pid)
		p := w.m.live(pid)
		if p == nil {
			is("Known, Home, Pending", []any{len(known), e, home, f, c, ok}, []any{0, api.ErrSrch, 0, api.ErrSrch, sys.Call{}, false})
			continue
		}
		var fds []int
		for n := range w.m.nfds {
			if p.fds[n] != nil {
				fds = append(fds, n)
			}
		}
		is("Known, Home", []any{known, e, home, f, ok}, []any{fds, api.OK, p.home, api.OK, p.call != nil})
		if p.call != nil {
			is("Pending", c.Text()+string(rune(c.Op)), p.call.Text()+string(rune(p.call.Op)))
		}
	}
	for pid, p := range w.m.procs {
		x, _ := w.k.Procs().Get(pid)
		is("a process", x, p.proc())
	}
}

func (w *walk) lookFiles(is func(what string, got, want any)) {
	all, refs := w.m.files()
	is("how many files are open", w.k.Files().Count(), len(all))
	for id := range 65 {
		o, e := w.k.Files().Get(id)
		if x := all[id]; x == nil {
			is("what isn't open", []any{o, e}, []any{fd.Open{}, api.ErrBadf})
		} else {
			is("an open file", []any{o, e}, []any{fd.Open{Kind: x.kind, Num: x.num, At: x.at, Flags: x.flags, Refs: refs[id]}, api.OK})
		}
	}
	is("how many pipes there are", w.k.Pipes().Count(), len(w.m.bytes))
	for num, b := range w.m.bytes {
		readers, writers, e := w.k.Pipes().Ends(num)
		n, _ := w.k.Pipes().Len(num)
		r, u := w.m.ends(num)
		is("a pipe", []any{readers, writers, n, e}, []any{r, u, len(b), api.OK})
	}
}

// holds: how often a number that has a name is held.
func holds(x *tree.Tree, num int) int {
	n := 0
	for x.Drop(num) == api.OK {
		n++
	}
	for range n {
		x.Hold(num)
	}
	return n
}

// look: all of it, its bytes and holds, too.
func (w *walk) look(t *testing.T) {
	t.Helper()
	if d := w.differs(); d != nil {
		t.Fatalf("P24.1: %s", strings.Join(d, "\n"))
	}
	x := w.k.Tree()
	for _, num := range x.Vol().Used() {
		if s, _ := x.Stat(num); s.Links > 0 && holds(x, num) != w.m.held[num] {
			t.Fatalf("P24.2: %d is held %d times, not %d", num, holds(x, num), w.m.held[num])
		}
	}
	if a, b := dump(t, x), dump(t, w.m.x); !fs.Same(a, b) {
		t.Fatalf("P24.3: %v; want %v", a, b)
	}
}

func dump(t *testing.T, x *tree.Tree) []fs.Item {
	t.Helper()
	list, e := fs.Dump(x)
	if e != api.OK {
		t.Fatalf("no dump: %v", e)
	}
	if faults := fs.Check(x); faults != nil {
		t.Fatalf("P24.2: %v", faults)
	}
	return list
}

// stop: all processes but 1 end, and that closes all.
func (w *walk) stop(t *testing.T) {
	t.Helper()
	for round := 0; len(w.k.Procs().Pids()) > 1 || len(w.k.Ready()) > 0 || round == 0; round++ {
		if round > 1000 {
			t.Fatalf("P24.4: processes go on: %v", w.k.Procs().Pids())
		}
		for _, pid := range w.k.Procs().Pids() {
			w.k.Procs().Kill(pid)
			w.k.Step(pid)
		}
		w.k.Tick(1)
	}
	if c, ok := w.k.Pending(1); ok { // a read of a pipe that nobody writes to, or such
		t.Logf("1 waits for %q", c.Text())
		return
	}
	known, _ := w.k.Known(1)
	for _, n := range known {
		w.k.Issue(1, sys.Call{Op: sys.Close, A: n})
		w.k.Step(1)
	}
	w.k.Issue(1, sys.Call{Op: sys.Chdir, S: "/"})
	w.k.Step(1)
	if w.k.Files().Count() != 0 || w.k.Pipes().Count() != 0 {
		t.Errorf("P24.2: %d files, %d pipes of nobody", w.k.Files().Count(), w.k.Pipes().Count())
	}
	for _, num := range w.k.Tree().Vol().Used() {
		s, _ := w.k.Tree().Stat(num)
		want := 0
		if num == api.Root {
			want = 1
		}
		if s.Links == 0 || holds(w.k.Tree(), num) != want {
			t.Errorf("P24.2: %d has %d links, and is held %d times", num, s.Links, holds(w.k.Tree(), num))
		}
	}
}

// worlds: of each walk the geometry and the limits.
var worlds = []struct {
	g geom.Geom
	l kern.Limits
}{
	{geom.Geom{Segs: 20, Groups: 2, Inodes: 20}, kern.Limits{Files: 9, Fds: 6, Procs: 5}},
	{geom.Geom{Segs: 20, Groups: 2, Inodes: 20}, kern.Limits{Files: 16, Fds: 8, Procs: 8}},
	{geom.Geom{Segs: 10, Groups: 1, Inodes: 6}, kern.Limits{Files: 4, Fds: 4, Procs: 3}},
	{geom.Geom{Segs: 16, Groups: 1, Inodes: 8}, kern.Limits{Files: 100, Fds: 100, Procs: 100}},
	{geom.Geom{Segs: 40, Groups: 5, Inodes: 40}, kern.Limits{Files: 12, Fds: 5, Procs: 4}},
	{geom.Geom{Segs: 20, Groups: 2, Inodes: 20}, kern.Limits{Files: 3, Fds: 5, Procs: 0}},
	{geom.Geom{Segs: 20, Groups: 2, Inodes: 20}, kern.Limits{Files: -1, Fds: math.MinInt, Procs: 2}},
}

// each: walks of each world, those of all worlds at a time; what all of them met.
func each(t *testing.T, walks int, do func(t *testing.T, w *walk)) map[string]int {
	t.Helper()
	var met []map[string]int
	t.Run("all", func(t *testing.T) {
		for i, x := range worlds {
			mine := map[string]int{}
			met = append(met, mine)
			t.Run("", func(t *testing.T) {
				t.Parallel()
				for seed := range walks {
					w := newWalk(t, x.g, x.l, int64(seed*len(worlds)+i))
					w.met = mine
					do(t, w)
				}
			})
		}
	})
	sum := map[string]int{}
	for _, m := range met {
		for what, n := range m {
			sum[what] += n
		}
	}
	return sum
}

// names are the errors of a path, and of what it names.
var names = []api.Errno{api.OK, api.ErrInval, api.ErrFault, api.ErrNoent, api.ErrNotdir, api.ErrNametoolong}

// wanted: what each call comes to; all of it must come up, and nothing else.
var wanted = map[string][]api.Errno{
	"":         {api.ErrInval},
	"fork":     {api.OK, api.ErrAgain},
	"exit":     {api.ErrInval},
	"wait":     {api.OK, api.ErrChild},
	"kill":     {api.OK, api.ErrInval, api.ErrSrch},
	"sleep":    {api.OK, api.ErrInval},
	"getpid":   {api.OK},
	"open":     append([]api.Errno{api.ErrExist, api.ErrIsdir, api.ErrMfile, api.ErrNfile, api.ErrNospc}, names...),
	"close":    {api.OK, api.ErrBadf},
	"read":     {api.OK, api.ErrInval, api.ErrBadf, api.ErrFault, api.ErrIsdir},
	"write":    {api.OK, api.ErrBadf, api.ErrFault, api.ErrFbig, api.ErrNospc, api.ErrPipe},
	"seek":     {api.OK, api.ErrInval, api.ErrBadf, api.ErrSpipe},
	"dup":      {api.OK, api.ErrBadf, api.ErrMfile},
	"dup2":     {api.OK, api.ErrBadf},
	"pipe":     {api.OK, api.ErrMfile, api.ErrNfile},
	"link":     append([]api.Errno{api.ErrExist, api.ErrIsdir, api.ErrNospc}, names...),
	"unlink":   append([]api.Errno{api.ErrIsdir, api.ErrBusy}, names...),
	"rename":   append([]api.Errno{api.ErrIsdir, api.ErrNotempty, api.ErrBusy, api.ErrNospc}, names...),
	"mkdir":    append([]api.Errno{api.ErrExist, api.ErrNospc}, names...),
	"rmdir":    append([]api.Errno{api.ErrNotempty, api.ErrBusy}, names...),
	"chdir":    names,
	"stat":     names,
	"fstat":    {api.OK, api.ErrBadf, api.ErrSpipe},
	"list":     {api.OK, api.ErrBadf, api.ErrNotdir, api.ErrSpipe},
	"truncate": {api.OK, api.ErrInval, api.ErrBadf, api.ErrFbig, api.ErrSpipe},
	"sync":     {api.OK},
	"fsync":    {api.OK, api.ErrBadf},
	"getcwd":   {api.OK, api.ErrNoent},
	"getppid":  {api.OK},
	"time":     {api.OK},
}

// P24.1 to P24.4: step by step a kernel is what its model is, whenever it is flushed or cleaned.
func TestModel(t *testing.T) {
	met := each(t, 40, func(t *testing.T, w *walk) {
		for step := range 400 {
			w.turn(t)
			if step%6 == 0 {
				w.other(t)
			}
			if d := w.differs(); d != nil {
				t.Fatalf("P24.1: %s", strings.Join(d, "\n"))
			}
			if step%25 == 0 {
				w.look(t)
			}
		}
		w.stop(t)
	})
	for what, list := range wanted {
		for _, e := range list {
			if met[what+" "+number(e)] == 0 && what+" "+number(e) != "link 11" { // of which TestOpenRoom makes sure
				t.Errorf("P24.1: %q never told %v: the walk is in vain", what, e)
			}
		}
	}
	for what, n := range met {
		call, e, _ := strings.Cut(what, " ")
		if e == "blocked" || what == "ended" {
			continue
		}
		if !slices.ContainsFunc(wanted[call], func(x api.Errno) bool { return number(x) == e }) {
			t.Errorf("P24.1: %q told %s, %d times", call, e, n)
		}
	}
	for _, what := range []string{"wait blocked", "sleep blocked", "read blocked", "write blocked", "ended"} {
		if met[what] == 0 {
			t.Errorf("P24.1: never %s: the walk is in vain", what)
		}
	}
}
