package play_test

import (
	"fmt"
	"slices"
	"strings"
	"testing"

	"drumlin/api"
	"drumlin/ckpt"
	"drumlin/fs"
	"drumlin/geom"
	"drumlin/kern"
	"drumlin/play"
	"drumlin/sys"
	"drumlin/tree"
)

var small = geom.Geom{Segs: 20, Groups: 2, Inodes: 20}

// told: lines, each with what it must come to behind a "=>", the lines of that with a | between.
func told(t *testing.T, m *play.Machine, text string) {
	t.Helper()
	for _, x := range lines(text) {
		line, want, ok := strings.Cut(x, " => ")
		if !ok {
			t.Fatalf("no line of a table: %q", x)
		}
		if got := strings.Join(m.Do(line), "|"); got != want {
			t.Errorf("P27.1: %q came to %q, want %q", line, got, want)
		}
	}
}

// P27.1: lines of each kind.
func TestKinds(t *testing.T) {
	for _, text := range []string{
		`
1 mkdir a => 1 mkdir a : ok 2
1 open a/f 11 => 1 open a/f 11 : ok
1 write 0 hi => 1 write 0 hi : ok 2
1 link a/f %20%0A => 1 link a/f %20%0A : ok
dump => dump 3|f /%20%0A hi|d /a|l /a/f /%20%0A
1 read 0 9 => 1 read 0 9 : ok
1 seek 0 4 => 1 seek 0 4 : ok 1
1 read 0 9 => 1 read 0 9 : ok 1 0 i
1 list 0 => 1 list 0 : error 6
1 open none 1 => 1 open none 1 : error 4
1 open none 0 => 1 open none 0 : error 1
1 write 0 % => 1 write 0 % : ok
1 stat a/f => 1 stat a/f : ok 3 2 %01%02%00%00%00%00%00
1 getcwd => 1 getcwd : ok 0 0 /
9 getpid => 9 error 18
check => check 0
`, `
tick 0 => tick 0
1 fork => 1 fork : ok 2
issue 2 sleep 3 => issued 2
ready => ready
issue 2 getpid => issue 2 error 22
issue 3 getpid => issue 3 error 18
2 getpid => 2 error 22
step 2 => 2 sleep 3 blocked
step 2 => 2 sleep 3 blocked
step 3 => step 3 error 18
step 1 => 1 idle
tick 2 => tick 2
1 fork => 1 fork : ok 3
3 sleep 1 => 3 sleep 1 blocked
tick 9 => tick 11 2 3
ready => ready 2 3
step 3 => 3 sleep 1 : ok
ready => ready 2
tick 999999 => tick 1000010
1 time => 1 time : ok 1000010
issue 1 wait => issued 1
ready => ready 2
step 1 => 1 wait blocked
3 exit 5 => 3 ended
step 3 => step 3 error 18
3 getpid => 3 error 18
1 exit 5 => 1 error 22
step 2 => 2 sleep 3 : ok
2 kill 2 => 2 kill 2 : ok
ready => ready 2
issue 2 kill 1 => issued 2
ready => ready 2
step 2 => 2 ended
step 1 => 1 wait : error 17
2 getpid => 2 error 18
ready => ready
`, `
flush => ok
checkpoint => ok
clean => ok
clean 0 1 19 => ok
clean 20 => error 1
clean 3 999999 => error 1
clean 1 1 1 1 1 1 1 1 1 1 1 1 1 1 1 1 1 1 1 1 => ok
mount => up
arm 0 => armed
flush => ok
1 sync => 1 sync : ok
1 mkdir a => 1 mkdir a : ok 2
dump => dump 1|d /a
arm 999999 => armed
flush => ok
arm 0 => armed
tick 5 => tick 5
1 open f 11 => 1 open f 11 : ok
1 close 9 => 1 close 9 : error 2
check => check 0
ready => ready
clean 20 => error 1
mount => up
1 fsync 0 => died
mount => dead
arm 5 => armed
mount => dead
1 getpid => down
tick 1 => down
crash => crashed
1 getpid => down
mount => mounted
mount => up
1 time => 1 time : ok
dump => dump 1|d /a
1 close 0 => 1 close 0 : error 2
`, `
1 open f 11 => 1 open f 11 : ok
1 unlink f => 1 unlink f : ok
1 fork => 1 fork : ok 2
issue 1 sync => issued 1
step 1 => 1 sync : ok
tick 7 => tick 7
crash 0101 => crashed
crash => crashed
mount => mounted
1 open g 11 => 1 open g 11 : ok
1 fstat 0 => 1 fstat 0 : ok 2 0 %01%01%00%00%00%00%00
2 getpid => 2 error 18
ready => ready
arm 1 => armed
issue 1 fsync 0 => issued 1
ready => ready 1
step 1 => died
step 1 => down
issue 1 getpid => down
flush => down
checkpoint => down
clean => down
dump => down
check => down
ready => down
uses => down
tick 1 => down
clean 99 => down
oops => ?
crash 11111111111 => crashed
mount => mounted
`,
	} {
		told(t, drive(t, small), text)
	}
}

// P27.1: a line that is none, whether the machine is up or down; and nothing comes of it.
func TestNone(t *testing.T) {
	m := drive(t, small, "1 fork", "2 sleep 5")
	d := m.Disk().Twin()
	bad := []string{"", " ", "\n", "1", "1 ", "0 getpid", "-1 getpid", "01 getpid", "1000000 getpid", "1 getpid ", " 1 getpid", "1  getpid", "1 getpid\n", "1 nothing", "1 open a", "1 open a 11 0", "1 open a%2f 11", "1 write 0 ", "1 exit 01", "getpid",
		"issue", "issue 1", "issue getpid", "issue 0 getpid", "step", "step 0", "step 1 2", "step x", "tick", "tick -1", "tick 1000000", "tick 01", "flush 1", "flush ", "Flush", "checkpoint 0", "clean ", "clean -1", "clean 1  2", "clean x", "clean 1000000", "clean 1 1 1 1 1 1 1 1 1 1 1 1 1 1 1 1 1 1 1 1 1",
		"arm", "arm -1", "arm x", "crash ", "crash 2", "crash 1 0", "crash x", "mount 1", "MOUNT", "dump 1", "dump ", "check 0", "ready 1", "uses 1", "#", "# flush", "flush\nflush", "flush\r", "\xff", "end", "?", "died"}
	for _, line := range bad {
		if got := m.Do(line); !slices.Equal(got, []string{"?"}) {
			t.Errorf("P27.1: %q came to %q", line, got)
		}
	}
	if !m.Up() || !m.Disk().Same(d) || m.Disk().Deeds() != d.Deeds() {
		t.Errorf("P27.1: something came of lines that are none")
	}
	told(t, m, "ready => ready\ntick 5 => tick 5 2\nstep 1 => 1 idle\ncrash => crashed")
	for _, line := range bad {
		if got := m.Do(line); !slices.Equal(got, []string{"?"}) || m.Up() {
			t.Errorf("P27.1: %q, of a machine that is down, came to %q", line, got)
		}
	}
}

// P27.1: what hasn't to do with the disk doesn't touch it, nor does what finds nothing to do.
func TestHarmless(t *testing.T) {
	m := drive(t, small, "1 mkdir a", "1 open a/f 11", "1 write 0 "+strings.Repeat("x", 2000), "1 fork", "checkpoint", "arm 0")
	d := m.Disk().Twin()
	for _, line := range []string{"1 open g 11", "1 write 1 y", "1 truncate 0 5", "1 unlink a/f", "1 rename a b", "1 rmdir b", "1 mkdir c", "1 link g h", "2 chdir c", "2 list 0", "2 pipe", "issue 2 sync", "step 1", "tick 4", "arm 0", "dump", "check", "ready", "uses", "clean 20", "mount"} {
		m.Do(line)
		if !m.Up() || !m.Disk().Same(d) || m.Disk().Deeds() != d.Deeds() {
			t.Fatalf("P27.1: %q did something to the disk", line)
		}
	}
	told(t, m, "step 2 => died\nflush => down")
	if m.Kernel() != nil || m.Up() || !m.Disk().Dead() {
		t.Errorf("P27.1: a machine whose disk died is up")
	}
}

// P27.1: what is armed once more counts from then on; what was armed is forgotten behind a crash.
func TestArm(t *testing.T) {
	m := drive(t, small, "1 mkdir a", "arm 0", "arm 30")
	told(t, m, "flush => ok\n1 mkdir b => 1 mkdir b : ok 3\narm 0 => armed\ncrash => crashed\nmount => mounted\n1 mkdir c => 1 mkdir c : ok 3\nflush => ok\ndump => dump 2|d /a|d /c\ncrash => crashed\narm 0 => armed\nmount => mounted\ndump => dump 2|d /a|d /c\nflush => ok\n1 rmdir a => 1 rmdir a : ok\nflush => died\ncrash 1111 => crashed")
	deeds := m.Disk().Deeds()
	told(t, m, "arm 2 => armed\nmount => mounted\n1 mkdir d => 1 mkdir d : ok 4\ncheckpoint => died")
	if n := m.Disk().Deeds() - deeds; n != 2 {
		t.Errorf("P27.1: a disk that was armed with 2 did %d deeds", n)
	}
}

// P27.1: what a machine is when it is new, of any geometry that may be.
func TestNew(t *testing.T) {
	limits := kern.Limits{Files: 16, Fds: 8, Procs: 8}
	for _, g := range []geom.Geom{small, {Segs: 10, Groups: 1, Inodes: 2}, {Segs: 200, Groups: 32, Inodes: 200}, {Segs: 200, Groups: 1, Inodes: 200}, {Segs: 12, Groups: 32, Inodes: 200}} {
		m, e := play.New(g)
		if e != api.OK || !m.Up() || m.Kernel() == nil || m.Disk().Size() != g.Sectors() || m.Disk().Dead() || len(m.Disk().Queue()) != 0 {
			t.Fatalf("P27.1: New(%v) = %v", g, e)
		}
		x, e := tree.Mount(m.Disk().Twin())
		if e != api.OK || x.Vol().Geom() != g || x.Vol().Time() != 0 {
			t.Errorf("P27.1: of a new machine's disk: %v", e)
		}
		told(t, m, "dump => dump 0\ncheck => check 0\nready => ready\nstep 1 => 1 idle\nstep 2 => step 2 error 18\ntick 0 => tick 0\n1 getcwd => 1 getcwd : ok 0 0 /\n1 stat / => 1 stat / : ok 1 128 %02%01%00%00%00%00%00")
		if got := m.Do("uses"); len(got) != 1 || len(got[0]) != g.Segs || strings.Trim(got[0], ".oh0123456789") != "" || !strings.Contains(got[0], "o") {
			t.Errorf("P27.1: uses of %v = %q", g, got)
		}
	}
	m, k := drive(t, small), kern.Boot(smallTree(t), limits)
	for range 40 { // as many processes, fds and files as a kernel of these limits has
		for _, line := range []string{"1 fork", "1 open / 1", "2 open / 1", "3 pipe", "3 dup 0", "3 dup2 0 7", "3 dup2 0 8"} {
			got := m.Do(line)[0]
			c := readCall(strings.Split(line, " ")[1:])
			pid := int(line[0] - '0')
			if want := stepOf(k, pid, c.text); got != want {
				t.Fatalf("P27.1: %q came to %q, of a kernel %q", line, got, want)
			}
		}
	}
	if p, f := m.Kernel().Procs().Pids(), m.Kernel().Files().Count(); len(p) != 8 || f != 16 {
		t.Errorf("P27.1: there are %d processes, %d open files", len(p), f)
	}
}

// P27.1: a geometry that may not be.
func TestNoGeom(t *testing.T) {
	n := 0
	for segs := -1; segs <= 202; segs++ {
		for _, groups := range []int{-1, 0, 1, 2, 32, 33} {
			for _, inodes := range []int{-5, 0, 1, 2, 200, 201} {
				g := geom.Geom{Segs: segs, Groups: groups, Inodes: inodes}
				if segs >= 10 && segs <= 200 && groups >= 1 && groups <= 32 && inodes >= 2 && inodes <= 200 && newWorld(g).room() >= 8 {
					continue
				}
				n++
				if m, e := play.New(g); m != nil || e != api.ErrInval {
					t.Errorf("P27.1: New(%v) = %v, %v", g, m, e)
				}
				if got := play.Run(g, "1 getpid\nflush"); !slices.Equal(got, []string{"error 1"}) {
					t.Errorf("P27.1: Run of %v = %q", g, got)
				}
			}
		}
	}
	if n < 1000 {
		t.Errorf("P27.1: %d geometries that may not be: the test is in vain", n)
	}
	for _, g := range []geom.Geom{{}, {Segs: -1 << 63, Groups: -1 << 63, Inodes: -1 << 63}, {Segs: 1<<63 - 1, Groups: 1<<63 - 1, Inodes: 1<<63 - 1}, {Segs: 20, Groups: 1 << 62, Inodes: 20}} {
		if m, e := play.New(g); m != nil || e != api.ErrInval {
			t.Errorf("P27.1: New(%v) = %v, %v", g, m, e)
		}
	}
}

// P27.1: behind a checkpoint the disk has one of the tree as it is.
func TestCheckpoint(t *testing.T) {
	m := drive(t, small, "1 mkdir a", "1 mkdir b", "checkpoint")
	s, e := ckpt.Read(m.Disk(), small)
	if e != api.OK || !slices.Equal(s.Map.Used(), []int{1, 2, 3}) {
		t.Errorf("P27.1: behind a checkpoint the disk has another one: %v", e)
	}
}

// P27.1: the errors that lines tell of what was changed without them.
func TestErrors(t *testing.T) {
	m := drive(t, small, "1 open f 11", "1 mkdir a", "flush")
	v := m.Kernel().Tree().Vol()
	v.Link(2, 1)
	told(t, m, "check => check 1 2 1")
	v.Link(3, 2)
	told(t, m, "check => check 2 2 1 3 1\ndump => dump 2|d /a|f /f %")
	v.Write(3, 40, []byte{1})
	told(t, m, "check => check 3 2 1 3 1 3 4\ndump => error 21")
	if want, e := fs.Dump(m.Kernel().Tree()); want != nil || e != api.ErrForm {
		t.Errorf("P27.1: Dump = %v, %v", want, e)
	}
	m = drive(t, small)
	v = m.Kernel().Tree().Vol()
	num, _ := v.New(api.File)
	for i := 0; v.Cost() <= small.Room(); i++ {
		v.Write(num, i*128, []byte("x"))
	}
	told(t, m, "flush => error 11\ncheckpoint => error 11\nready => ready\n1 getpid => 1 getpid : ok 1")
	v.Truncate(num, 0)
	told(t, m, "flush => ok\ncheckpoint => ok\nclean => ok")
	m.Do("crash")
	d := m.Disk()
	d.Write(0, api.Sector{})
	told(t, m, "mount => error 21\nmount => error 21\ndump => down\ncrash 1 => crashed\nmount => error 21")
	if m.Up() || m.Kernel() != nil {
		t.Errorf("P27.1: a machine is up without a tree")
	}
	d.Write(0, small.Super())
	told(t, m, "mount => mounted\ndump => dump 0")
}

// P27.1: a disk that died ahead of a line doesn't die in it: the line tells what it came to.
func TestDead(t *testing.T) {
	m := drive(t, small, "1 mkdir a", "flush", "1 mkdir b", "arm 0")
	m.Disk().Flush()
	told(t, m, "flush => error 20\ncheckpoint => error 20\nclean => error 20\n1 sync => 1 sync : error 20\nmount => up\n1 getpid => 1 getpid : ok 1\nready => ready\ncrash => crashed\nmount => mounted\ndump => dump 1|d /a")
}

// P27.1: a text's lines, with those that are none.
func TestRun(t *testing.T) {
	for _, x := range [][2]string{
		{"", "end"},
		{"\n\n", "end"},
		{"# nothing", "end"},
		{"flush", "ok end"},
		{"flush\n", "ok end"},
		{"\n#\nflush\n\n# x\nready", "ok ready end"},
		{" #", "? end"},
		{"flush\r\nflush", "? ok end"},
		{"end\nend", "? ? end"},
		{"crash\nflush\nmount\n1 mkdir a\ndump", "crashed down mounted 1 mkdir a : ok 2 dump 1 d /a end"},
	} {
		if got := strings.Join(play.Run(small, x[0]), " "); got != x[1] {
			t.Errorf("P27.1: Run of %q = %q, want %q", x[0], got, x[1])
		}
	}
}

// P27.1: the ten examples of the whole.
func TestTen(t *testing.T) {
	for i, x := range [][2]string{
		{"1 mkdir a, 1 open a/f 11, 1 write 0 hi, dump", "1 mkdir a : ok 2 / 1 open a/f 11 : ok / 1 write 0 hi : ok 2 / dump 2 / d /a / f /a/f hi"},
		{"1 open f 11, crash, 1 getpid, mount, dump", "1 open f 11 : ok / crashed / down / mounted / dump 0"},
		{"1 open f 11, 1 sync, crash, mount, dump", "1 open f 11 : ok / 1 sync : ok / crashed / mounted / dump 1 / f /f %"},
		{"1 pipe, 1 fork, 2 read 0 9, 1 write 1 abc, step 2", "1 pipe : ok 0 1 / 1 fork : ok 2 / 2 read 0 9 blocked / 1 write 1 abc : ok 3 / 2 read 0 9 : ok 3 0 abc"},
		{"1 fork, 2 exit 7, 1 wait, 1 wait", "1 fork : ok 2 / 2 ended / 1 wait : error 17 / 1 wait : error 17"},
		{"1 fork, 2 fork, 3 exit 7, 2 wait", "1 fork : ok 2 / 2 fork : ok 3 / 3 ended / 2 wait : ok 3 7"},
		{"1 open f 11, 1 unlink f, 1 write 0 x, 1 fstat 0, 1 close 0, check", "1 open f 11 : ok / 1 unlink f : ok / 1 write 0 x : ok 1 / 1 fstat 0 : ok 2 1 %01%00%00%00%00%00%00 / 1 close 0 : ok / check 0"},
		{"1 mkdir a, 1 mkdir a/b, 1 rename a a/b/c, 1 rename a/b /b, dump", "1 mkdir a : ok 2 / 1 mkdir a/b : ok 3 / 1 rename a a/b/c : error 1 / 1 rename a/b /b : ok / dump 2 / d /a / d /b"},
		{"1 fork, 2 sleep 3, ready, tick 2, tick 1, ready, step 2", "1 fork : ok 2 / 2 sleep 3 blocked / ready / tick 2 / tick 3 2 / ready 2 / 2 sleep 3 : ok"},
		{"1 open f 11, arm 1, 1 sync, mount, crash 1, mount, dump", "1 open f 11 : ok / armed / died / dead / crashed / mounted / dump 0"},
	} {
		got := play.Run(small, strings.ReplaceAll(x[0], ", ", "\n"))
		if text := strings.Join(got, " / "); text != x[1]+" / end" {
			t.Errorf("P27.1: example %d: %s", i+1, text)
		}
	}
}

// P27.1 (rules 3 and 5): what was answered is the caller's; machines share nothing.
func TestApart(t *testing.T) {
	m, o := drive(t, small, "1 mkdir a", "flush"), drive(t, small)
	was := slices.Clone(m.Do("dump"))
	clear(m.Do("dump"))
	got := m.Do("dump")
	if _ = append(got[:1], "x"); !slices.Equal(m.Do("dump"), was) {
		t.Errorf("P27.1: a dump is %q, was %q", m.Do("dump"), was)
	}
	told(t, o, "dump => dump 0\n1 open f 11 => 1 open f 11 : ok\ntick 3 => tick 3\narm 0 => armed\nflush => died")
	told(t, m, "dump => dump 1|d /a\n1 time => 1 time : ok\n1 getpid => 1 getpid : ok 1\n1 mkdir b => 1 mkdir b : ok 3\nflush => ok")
	if m.Disk() == o.Disk() || m.Disk() != m.Disk() || m.Kernel() != m.Kernel() {
		t.Errorf("P27.1: disks or kernels of machines aren't theirs")
	}
	k := m.Kernel()
	told(t, m, "crash => crashed\nmount => mounted")
	if m.Kernel() == k || m.Kernel() == nil {
		t.Errorf("P27.1: behind a crash the kernel is the old one")
	}
}

// smallTree: a tree of the small geometry.
func smallTree(t *testing.T) *tree.Tree {
	t.Helper()
	x, e := tree.Format(drive(t, small).Disk(), small, 0)
	if e != api.OK {
		t.Fatalf("no tree: %v", e)
	}
	return x
}

// stepOf: a call of a kernel, as a line tells it.
func stepOf(k *kern.Kernel, pid int, text string) string {
	c, e := sys.Parse(text)
	if e != api.OK {
		return "?"
	}
	if e := k.Issue(pid, c); e != api.OK {
		return fmt.Sprint(pid, " error ", int(e))
	}
	v, _ := k.Step(pid)
	return fmt.Sprint(pid, " ", text, " : ", v.Answer.Text())
}
