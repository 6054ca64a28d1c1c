package play_test

import (
	"fmt"
	"math/rand"
	"slices"
	"strings"
	"testing"

	"drumlin/api"
	"drumlin/geom"
	"drumlin/kern"
	"drumlin/play"
	"drumlin/usage"
)

// walk drives a machine and its model, line by line.
type walk struct {
	r      *rand.Rand
	g      geom.Geom
	real   *play.Machine
	m      *machine
	armed  bool
	recent []string // the lines of late, for whoever looks for a fault
	met    map[string]int
}

func newWalk(t *testing.T, g geom.Geom, seed int64) *walk {
	t.Helper()
	x, e := play.New(g)
	if e != api.OK {
		t.Fatalf("P27.1: New(%v) = %v", g, e)
	}
	return &walk{r: rand.New(rand.NewSource(seed)), g: g, real: x, m: newMachine(newWorld(g)), met: map[string]int{}}
}

func one[T any](r *rand.Rand, list ...T) T { return list[r.Intn(len(list))] }

// fail: the walk came to something else.
func (w *walk) fail(t *testing.T, format string, list ...any) {
	t.Helper()
	t.Fatalf("%s\nof %v, behind\n%.3000s", fmt.Sprintf(format, list...), w.g, strings.Join(w.recent, "\n"))
}

// do: a line, of both.
func (w *walk) do(t *testing.T, line string) {
	t.Helper()
	w.recent = append(w.recent, line)
	if len(w.recent) > 40 {
		w.recent = w.recent[1:]
	}
	wasUp, alive := w.m.up, !w.real.Disk().Dead()
	got := w.real.Do(line)
	word, _, _ := strings.Cut(line, " ")
	var want []string
	switch {
	case word == "arm":
		want, w.armed = []string{"armed"}, alive
	case word == "crash":
		want, w.m.up, w.armed = []string{"crashed"}, false, false
	case word == "mount":
		want = []string{"mounted"}
		if wasUp {
			want = []string{"up"}
		} else if !alive {
			want = []string{"dead"}
		} else if slices.Equal(got, want) {
			w.remount(t)
		}
	case !wasUp:
		want = []string{"down"}
	case w.real.Disk().Dead():
		if !w.armed || !w.flushes(line) {
			w.fail(t, "P27.4: the disk died in %q", line)
		}
		want, w.armed = []string{"died"}, false
		w.met["died of "+w.op(line)]++
		w.m.died()
	case word == "uses":
		want = []string{w.uses()}
	default:
		want = w.m.do(line)
	}
	if !slices.Equal(got, want) {
		w.fail(t, "P27.1: %q came to %q, want %q", line, got, want)
	}
	w.count(line, want[0])
	if w.real.Up() != w.m.up || (w.real.Kernel() != nil) != w.m.up {
		w.fail(t, "P27.1: behind %q: Up is %v", line, w.real.Up())
	}
}

// op: of a line, the call that is done, or tried again; else its first word.
func (w *walk) op(line string) string {
	words := strings.Split(line, " ")
	switch {
	case len(words) > 1 && has[words[1]] != "" || len(words) == 2 && words[0] != "step" && words[0] != "tick":
		return words[1]
	case words[0] == "step":
		if p := w.m.live(atoi(words[1])); p != nil && p.call != nil {
			return p.call.op
		}
	}
	return words[0]
}

// flushes: may a line write to the disk?
func (w *walk) flushes(line string) bool {
	return slices.Contains([]string{"flush", "checkpoint", "clean", "sync", "fsync"}, w.op(line)) || strings.HasPrefix(line, "clean ")
}

// count: what came up, so that no walk is in vain.
func (w *walk) count(line, answer string) {
	_, end, is := strings.Cut(answer, " : ")
	words := strings.Split(line, " ")
	switch {
	case is:
		text, _, _ := strings.Cut(answer, " : ")
		op := strings.Split(text, " ")[1]
		if n := strings.Fields(end); n[0] == "error" {
			w.met[op+" "+n[1]]++
		} else {
			w.met[op+" ok"]++
		}
	case strings.HasSuffix(answer, " blocked"):
		w.met[strings.Split(answer, " ")[1]+" blocked"]++
	case strings.HasSuffix(answer, " ended"), strings.HasSuffix(answer, " idle"):
		w.met[words[0]+" "+answer[len(answer)-5:]]++
	default:
		if i := strings.Index(answer, "error"); i >= 0 {
			w.met[words[0]+" "+answer[i:]]++
		}
		w.met[words[0]]++
	}
}

// uses: told by the chapters' words of what the volume's segments are filled with.
func (w *walk) uses() string {
	var text strings.Builder
	for _, u := range w.real.Kernel().Tree().Vol().Uses() {
		switch u.State {
		case usage.Clean:
			text.WriteString(".")
		case usage.Open:
			text.WriteString("o")
		case usage.Held:
			text.WriteString("h")
		default:
			text.WriteString(fmt.Sprint(9 * u.Live / (8 * w.g.Groups)))
		}
	}
	return text.String()
}

// remount: which of the trees that may be is found?
func (w *walk) remount(t *testing.T) {
	t.Helper()
	var differ []string
	for i := len(w.m.safe) - 1; i >= 0; i-- {
		x := w.m.safe[i].named()
		d := differs(w.real.Kernel(), x)
		if d != "" {
			differ = append(differ, d)
			continue
		}
		w.met[fmt.Sprintf("mounted %d of %d", i+1, len(w.m.safe))]++
		now := w.real.Kernel().Tree().Vol().Time()
		if now > w.m.w.now {
			w.fail(t, "P15.2: the time is %d behind a mount, it was %d", now, w.m.w.now)
		}
		x.now = now
		w.m.w, w.m.safe = x, []*world{x.named()}
		w.m.boot()
		return
	}
	w.fail(t, "P27.4: what is mounted is no tree that was flushed, or was to be: %q", differ)
}

// differs: what of a machine's tree isn't as a world has it; none: nothing.
func differs(k *kern.Kernel, w *world) string {
	x := k.Tree()
	if x.Vol().Cost() != w.cost() || x.Vol().Geom().Room() != w.room() {
		return fmt.Sprintf("it costs %d of %d, not %d of %d", x.Vol().Cost(), x.Vol().Geom().Room(), w.cost(), w.room())
	}
	for num := 1; num <= w.g.Inodes; num++ {
		s, e := x.Stat(num)
		n := w.nodes[num]
		if n == nil {
			if e != api.ErrNoent {
				return fmt.Sprintf("%d is there: %v, %v", num, s, e)
			}
			continue
		}
		if s.Num != num || s.Kind != n.kind || s.Links != n.links || s.Size != w.sizeOf(num) || s.Time != n.time || e != api.OK {
			return fmt.Sprintf("%d is %v, %v, not %v", num, s, e, *n)
		}
		if n.kind == api.File {
			b, e := x.Read(num, 0, api.MaxSize)
			if want, _ := w.read(num, 0, maxSize); !slices.Equal(b, want) || e != api.OK {
				return fmt.Sprintf("%d has other bytes, %v", num, e)
			}
			continue
		}
		list, e := x.List(num)
		i := 0
		for _, y := range n.slots {
			if y.num != 0 {
				if i == len(list) || list[i].Num != y.num || list[i].Name != y.name {
					return fmt.Sprintf("%d has %v, %v, not %v", num, list, e, n.slots)
				}
				i++
			}
		}
		if i != len(list) {
			return fmt.Sprintf("%d has %v, %v, not %v", num, list, e, n.slots)
		}
	}
	return ""
}

// look: all of the tree, what is open without a name, too.
func (w *walk) look(t *testing.T) {
	t.Helper()
	if !w.m.up {
		return
	}
	if d := differs(w.real.Kernel(), w.m.w); d != "" {
		w.fail(t, "P27.1: %s", d)
	}
	sum := 0
	for _, u := range w.real.Kernel().Tree().Vol().Uses() {
		sum += u.Live
	}
	if v := w.real.Kernel().Tree().Vol(); sum != v.Live() || v.Live() > w.m.w.room() {
		w.fail(t, "P15.4: %d blocks are live, the segments have %d, there is room for %d", v.Live(), sum, w.m.w.room())
	}
}

var long = strings.Repeat("n", 26)

// name: a path, mostly of few names, so that they meet.
func (w *walk) name() string {
	r := w.r
	switch r.Intn(12) {
	case 0:
		return one(r, "", ".", "..", "/", "//", "./", "../..", "/..", "a\x00b", "f/", "./f/.", "a/..", strings.Repeat("../", 32)+"a", strings.Repeat("../", 33), strings.Repeat("./", 127)+"b", strings.Repeat("./", 128), strings.Repeat("x", 4097))
	case 1:
		return one(r, long, long+"n", "x y\n%", "\xff\x80", "a/"+long, "é")
	case 2:
		return fmt.Sprint("f", r.Intn(30))
	}
	s := one(r, "", "", "", "", "/", "../", "./", "//")
	for range 1 + r.Intn(1+r.Intn(3)) {
		s += one(r, "a", "a", "b", "c", "f", "g", "..") + "/"
	}
	if r.Intn(8) > 0 {
		s = strings.TrimSuffix(s, "/")
	}
	return s
}

func (w *walk) data() string {
	n := one(w.r, 0, 1, 3, 20, 60, 65, 128, 300, w.r.Intn(1000), w.r.Intn(4097), 4096, 4097)
	b := make([]byte, n)
	w.r.Read(b)
	if w.r.Intn(2) == 0 {
		return strings.Repeat(one(w.r, "x", "%", "\x00"), n)
	}
	return string(b)
}

// fd: mostly one that the process knows.
func (w *walk) fd(p *process) int {
	var known []int
	for i, o := range p.fds {
		if o != nil {
			known = append(known, i)
		}
	}
	if len(known) == 0 || w.r.Intn(10) == 0 {
		return one(w.r, -1, 0, 1, 2, 7, 8, 1000, -1<<63, 1<<63-1)
	}
	return one(w.r, known...)
}

// pid: mostly one that is there, and of those that are, most often one that doesn't wait.
func (w *walk) pid() int {
	if w.r.Intn(25) == 0 {
		return 1 + w.r.Intn(w.m.last+2)
	}
	pid := one(w.r, w.m.pids()...)
	if p := w.m.procs[pid]; p.zombie || p.call != nil && w.m.waits(p) {
		pid = one(w.r, w.m.pids()...)
	}
	return pid
}

var ops = []string{"fork", "fork", "exit", "wait", "kill", "sleep", "getpid", "open", "open", "open", "open", "open", "close", "close", "read", "read", "write", "write", "write", "write", "seek", "seek", "dup", "dup2", "pipe", "link", "link", "unlink", "unlink", "rename", "rename", "rename", "mkdir", "mkdir", "mkdir", "rmdir", "chdir", "chdir", "stat", "fstat", "list", "truncate", "sync", "fsync", "getcwd", "getppid", "time"}

// call: the text of any, for a process.
func (w *walk) call(p *process) string {
	r := w.r
	c := call{op: one(r, ops...), a: w.fd(p), b: w.fd(p)}
	o := p.open(c.a)
	if p.pid == 1 && o != nil && o.kind != 'f' && (c.op == "read" || c.op == "write") && r.Intn(5) > 0 { // 1 can't be killed, so let it seldom wait
		c.op = "close"
	}
	switch c.op {
	case "open":
		c.a = one(r, 1, 2, 3, 9, 10, 11, 11, 11, 11, 12, 14, 15, 27, 43, 46, 35, 59, r.Intn(64), -1, 64)
	case "exit":
		c.a = one(r, 0, 7, 256, 300, -1, -1<<63, 1<<63-1)
	case "kill":
		c.a = w.pid()
	case "sleep":
		c.a = one(r, 0, 1, 2, 3, 9, -1, 1<<41)
	case "read":
		c.b = one(r, 0, 1, 10, r.Intn(200), r.Intn(5000), 4096, 4097, -1)
	case "seek":
		c.b = one(r, 0, r.Intn(3000), -r.Intn(3000), r.Intn(4*maxSize+9), 4*maxSize, 4*maxSize+4, 4*(maxSize-2), 4*1024, 4*5120, 4*9216, 1<<63-1-r.Intn(5), -1<<63+r.Intn(5))
	case "truncate":
		c.b = one(r, 0, r.Intn(300), r.Intn(6000), r.Intn(maxSize), maxSize, maxSize+1, -1)
	}
	text := c.op
	for _, x := range has[c.op] {
		switch x {
		case 'a':
			text += fmt.Sprint(" ", c.a)
		case 'b':
			text += fmt.Sprint(" ", c.b)
		case 'd':
			text += " " + escape(w.data())
		default:
			text += " " + escape(w.name())
		}
	}
	return text
}

// line: any but of those about the disk.
func (w *walk) line() string {
	r := w.r
	pid := w.pid()
	switch n := r.Intn(100); {
	case n < 12:
		return fmt.Sprint("step ", pid)
	case n < 17:
		return fmt.Sprint("tick ", one(r, 0, 1, 1, 2, 5, 9, 999999))
	case n < 24:
		return w.flush()
	case n < 30:
		return one(r, "ready", "ready", "ready", "dump", "check", "uses")
	default:
		p := w.m.live(pid)
		if p == nil {
			p = w.m.procs[1]
		}
		if p.killed || p.call != nil && r.Intn(8) > 0 { // its turn, so that it goes on
			return fmt.Sprint("step ", p.pid)
		}
		text := w.call(p)
		if n < 38 {
			return fmt.Sprint("issue ", pid, " ", text)
		}
		return fmt.Sprint(pid, " ", text)
	}
}

func (w *walk) flush() string {
	switch n := w.r.Intn(5); {
	case n < 2:
		return "flush"
	case n < 3:
		return "checkpoint"
	case n < 4:
		return "clean"
	}
	line := "clean"
	for range w.r.Intn(6) {
		line += fmt.Sprint(" ", w.r.Intn(w.g.Segs))
	}
	if w.r.Intn(4) == 0 {
		line += fmt.Sprint(" ", w.g.Segs+w.r.Intn(300))
	}
	return line
}

// stuck: does everybody wait for ever?
func (w *walk) stuck() bool {
	for _, p := range w.m.procs {
		if !p.zombie && (p.asleep || p.killed || p.call == nil || !w.m.waits(p)) {
			return false
		}
	}
	return true
}

// somegeoms: of these, and of those that anyGeom makes, machines are.
var somegeoms = []geom.Geom{
	{Segs: 20, Groups: 2, Inodes: 20},
	{Segs: 10, Groups: 1, Inodes: 6},
	{Segs: 16, Groups: 1, Inodes: 8},
	{Segs: 40, Groups: 5, Inodes: 40},
	{Segs: 20, Groups: 2, Inodes: 200},
	{Segs: 10, Groups: 1, Inodes: 2},
}

// anyGeom: one that may be.
func anyGeom(r *rand.Rand) geom.Geom {
	for {
		g := geom.Geom{Segs: 8 + r.Intn(1+r.Intn(193)), Groups: 1 + r.Intn(1+r.Intn(32)), Inodes: 2 + r.Intn(1+r.Intn(199))}
		if g.Check() == api.OK {
			return g
		}
	}
}

// each: walks of many geometries at a time; what all of them met.
func each(t *testing.T, walks int, do func(t *testing.T, w *walk)) map[string]int {
	t.Helper()
	all := make([]map[string]int, walks)
	t.Run("all", func(t *testing.T) {
		for i := range walks {
			t.Run("", func(t *testing.T) {
				t.Parallel()
				g := somegeoms[i/3%len(somegeoms)]
				if i%3 == 0 {
					g = anyGeom(rand.New(rand.NewSource(int64(i))))
				}
				w := newWalk(t, g, int64(i))
				all[i] = w.met
				do(t, w)
			})
		}
	})
	sum := map[string]int{}
	for _, met := range all {
		for what, n := range met {
			sum[what] += n
		}
	}
	return sum
}

// names are the errors of a path, and of what it names.
var names = []int{0, inval, fault, noent, notdir, nametoolong}

// wanted: what each call comes to; all of it must come up, and nothing else.
var wanted = map[string][]int{
	"fork": {0, again}, "exit": {inval}, "wait": {0, nochild}, "kill": {0, inval, nosuch}, "sleep": {0, inval}, "getpid": {0}, "getppid": {0}, "time": {0}, "sync": {0}, "fsync": {0, badf},
	"open":     append([]int{exist, isdir, mfile, nfile, nospc}, names...),
	"close":    {0, badf},
	"read":     {0, inval, badf, fault, isdir},
	"write":    {0, badf, fault, fbig, nospc, brokenpipe},
	"seek":     {0, inval, badf, nopipes},
	"dup":      {0, badf, mfile},
	"dup2":     {0, badf},
	"pipe":     {0, mfile, nfile},
	"link":     append([]int{exist, isdir, nospc}, names...),
	"unlink":   append([]int{isdir, busy}, names...),
	"rename":   append([]int{isdir, notempty, busy, nospc}, names...),
	"mkdir":    append([]int{exist, nospc}, names...),
	"rmdir":    append([]int{notempty, busy}, names...),
	"chdir":    names,
	"stat":     names,
	"fstat":    {0, badf, nopipes},
	"list":     {0, badf, notdir, nopipes},
	"truncate": {0, inval, badf, fbig, nopipes},
	"getcwd":   {0, noent},
}

// P27.1 (and P2, P4 to P6): line by line a machine comes to what one comes to that has neither disk nor log.
func TestModel(t *testing.T) {
	met := each(t, 90, func(t *testing.T, w *walk) {
		for step := range 900 {
			w.do(t, w.line())
			if step%30 == 0 {
				w.look(t)
			}
			if w.stuck() {

				return
			}
		}
	})
	for what, list := range wanted {
		for _, e := range list {
			name := fmt.Sprint(what, " ", e)
			if e == 0 {
				name = what + " ok"
			}
			if met[name] == 0 {
				t.Errorf("P27.1: never came to %q: the walk is in vain", name)
			}
		}
	}
	for what, n := range met {
		call, e, _ := strings.Cut(what, " ")
		if list, is := wanted[call]; is && e != "ok" && e != "blocked" && !slices.Contains(list, atoi(e)) && what != "link 10" {
			t.Errorf("P27.1: %q, %d times", what, n)
		}
	}
}
