package kern_test

import (
	"math"
	"slices"
	"strconv"
	"strings"
	"testing"

	"drumlin/api"
	"drumlin/disk"
	"drumlin/fd"
	"drumlin/geom"
	"drumlin/kern"
	"drumlin/sys"
)

var (
	small  = geom.Geom{Segs: 20, Groups: 2, Inodes: 20}
	limits = kern.Limits{Files: 9, Fds: 6, Procs: 5}
)

func boot(t *testing.T, l kern.Limits) (*disk.Disk, *kern.Kernel) {
	t.Helper()
	d, x := format(t, small)
	return d, kern.Boot(x, l)
}

// numbers: with a blank between.
func numbers(list ...int) string {
	var words []string
	for _, n := range list {
		words = append(words, strconv.Itoa(n))
	}
	return strings.Join(words, " ")
}

// told: what an Event comes to.
func told(v kern.Event, e api.Errno) string {
	if e != api.OK {
		return "error " + numbers(int(e))
	}
	return []string{"idle", v.Answer.Text(), "blocked", "ended"}[v.What]
}

// do: one line: a process's call, which it does in its next step, or another word.
func do(t *testing.T, k *kern.Kernel, line string) string {
	t.Helper()
	words := strings.SplitN(line, " ", 3)
	n := 0
	if len(words) > 1 {
		n, _ = strconv.Atoi(words[1])
	}
	call := func(s string) sys.Call {
		c, e := sys.Parse(s)
		if e != api.OK {
			t.Fatalf("no call: %q", s)
		}
		return c
	}
	switch words[0] {
	case "step":
		return told(k.Step(n))
	case "issue":
		return numbers(int(k.Issue(n, call(words[2]))))
	case "tick":
		return numbers(k.Tick(n)...)
	case "ready":
		return numbers(k.Ready()...)
	case "known":
		list, e := k.Known(n)
		return numbers(append([]int{int(e)}, list...)...)
	case "home":
		num, e := k.Home(n)
		return numbers(int(e), num)
	case "pending":
		c, ok := k.Pending(n)
		return c.Text() + map[bool]string{true: "!", false: ""}[ok]
	case "used":
		return numbers(k.Tree().Vol().Used()...)
	case "open":
		o, _ := k.Files().Get(n)
		return numbers(o.Kind, o.Num, o.At, o.Flags, o.Refs)
	case "ends":
		r, w, e := k.Pipes().Ends(n)
		return numbers(r, w, int(e))
	case "pids":
		return numbers(k.Procs().Pids()...)
	}
	pid, _ := strconv.Atoi(words[0])
	if e := k.Issue(pid, call(strings.TrimPrefix(line, words[0]+" "))); e != api.OK {
		return "issue " + numbers(int(e))
	}
	return told(k.Step(pid))
}

// script: lines, each with what it comes to behind " = ".
func script(t *testing.T, k *kern.Kernel, promise string, lines ...string) {
	t.Helper()
	for _, line := range lines {
		what, want, _ := strings.Cut(line, " = ")
		if got := do(t, k, what); got != want {
			t.Errorf("%s: %.80s: %.80q, want %.80q", promise, what, got, want)
		}
	}
}

// P24.1: a kernel at its beginning.
func TestBoot(t *testing.T) {
	_, x := format(t, small)
	k := kern.Boot(x, limits)
	if k.Tree() != x || k.Files().Count() != 0 || k.Pipes().Count() != 0 || k.Procs().Now() != 0 || x.Vol().Time() != 3 {
		t.Errorf("P24.1: Boot: another tree, or files, pipes, time")
	}
	script(t, k, "P24.1", "pids = 1", "known 1 = 0", "home 1 = 0 1", "pending 1 = ", "ready = ", "step 1 = idle", "1 getcwd = ok 0 0 /", "1 getppid = ok")
	if n := holds(x, 1); n != 1 {
		t.Errorf("P24.2: Root is held %d times", n)
	}
	for _, pid := range []int{math.MinInt, -1, 0, 2, 3, math.MaxInt} {
		known, e := k.Known(pid)
		home, f := k.Home(pid)
		v, g := k.Step(pid)
		h := k.Issue(pid, sys.Call{Op: sys.Getpid})
		c, ok := k.Pending(pid)
		if known != nil || home != 0 || v.Pid != 0 || v.What != 0 || c.Op != 0 || ok || slices.Max([]api.Errno{e, f, g, h}) != api.ErrSrch || slices.Min([]api.Errno{e, f, g, h}) != api.ErrSrch {
			t.Errorf("P24.1: of the Pid %d: %v %v, %v %v, %v %v, %v, %v %v", pid, known, e, home, f, v, g, h, c, ok)
		}
	}
}

// P24.1: as many files, pipes, fds and processes as the limits say, brought among 1 and the most.
func TestLimits(t *testing.T) {
	for _, x := range []struct{ given, files, fds, procs int }{{math.MinInt, 1, 1, 1}, {-1, 1, 1, 1}, {0, 1, 1, 1}, {1, 1, 1, 1}, {2, 2, 2, 2}, {15, 15, 15, 15}, {16, 16, 16, 16}, {17, 17, 16, 16}, {64, 64, 16, 16}, {65, 64, 16, 16}, {math.MaxInt, 64, 16, 16}} {
		_, k := boot(t, kern.Limits{Files: x.given, Fds: 16, Procs: 16})
		files := 0
		for pid := 1; pid <= 16; pid++ { // each opens all that it may
			for do(t, k, numbers(pid)+" open / 1") != "error 13" && files < 100 {
				if do(t, k, numbers(pid)+" open / 1") == "error 14" {
					break
				}
			}
			files = k.Files().Count()
			do(t, k, "1 fork")
			for n := range 16 {
				do(t, k, numbers(pid+1)+" close "+numbers(n))
			}
		}
		if files != x.files {
			t.Errorf("P24.1: with Files %d there are %d", x.given, files)
		}
		for k.Pipes().Count() < 100 {
			if _, e := k.Pipes().Make(); e != api.OK {
				break
			}
		}
		if n := k.Pipes().Count(); n != x.files {
			t.Errorf("P24.1: with Files %d there are %d pipes", x.given, n)
		}
		_, k = boot(t, kern.Limits{Files: 64, Fds: x.given, Procs: x.given})
		for do(t, k, "1 open / 1") != "error 13" && k.Files().Count() < 100 {
		}
		for do(t, k, "1 fork") != "error 15" && len(k.Procs().Pids()) < 100 {
		}
		if n := k.Files().Count(); n != x.fds || len(k.Procs().Pids()) != x.procs {
			t.Errorf("P24.1: with Fds and Procs %d there are %d, %d", x.given, n, len(k.Procs().Pids()))
		}
	}
}

// P24.1: what is pending is the Plain of what was issued, in memory of its own, till it is done.
func TestIssue(t *testing.T) {
	_, k := boot(t, limits)
	script(t, k, "P24.1",
		"1 fork = ok 2", "issue 1 getpid = 0", "issue 1 getppid = 22", "pending 1 = getpid!", "pending 2 = ", "ready = 1", "step 2 = idle", "step 1 = ok 1", "pending 1 = ", "step 1 = idle", "ready = ",
		"issue 2 read -1 4097 = 0", "ready = 2", "step 2 = error 3", "issue 3 getpid = 18", "2 exit 1 = ended", "issue 2 getpid = 18", "pending 2 = ", "step 2 = error 18", "known 2 = 18", "home 2 = 18 0")
	data := []byte("abc")
	k.Issue(1, sys.Call{Op: sys.Write, A: 1, B: 2, S: "s", T: "t", Data: data[:2]})
	data[0] = 'x'
	c, ok := k.Pending(1)
	if !ok || c.B != 0 || c.S != "" || c.T != "" || string(c.Data) != "ab" {
		t.Errorf("P24.1: Pending = %v, %v", c, ok)
	}
	c.Data[1] = 'y'
	_ = append(c.Data, 'z')
	if c, _ := k.Pending(1); string(c.Data) != "ab" {
		t.Errorf("P24.1: what was answered is still the kernel's: %q", c.Data)
	}
	for _, op := range []int{math.MinInt, -1, 0, 30, math.MaxInt} {
		k.Step(1)
		k.Issue(1, sys.Call{Op: op, A: 5})
		if c, ok := k.Pending(1); !ok || c.Op != op || c.A != 0 || !slices.Equal(k.Ready(), []int{1}) {
			t.Errorf("P24.1: Pending of the Op %d = %v, %v", op, c, ok)
		}
		if v, e := k.Step(1); e != api.OK || v.What != kern.Done || v.Pid != 1 || v.Answer.Err != api.ErrInval {
			t.Errorf("P24.1: Step of the Op %d = %v, %v", op, v, e)
		}
	}
}

// P24.1: fork, exit, wait, kill.
func TestLife(t *testing.T) {
	_, k := boot(t, limits)
	script(t, k, "P24.1",
		"1 wait = error 17", "1 fork = ok 2", "2 fork = ok 3", "2 fork = ok 4", "1 fork = ok 5", "5 fork = error 15", "4 getppid = ok 2", "4 getpid = ok 4", "5 getppid = ok 1",
		"2 wait = blocked", "1 wait = blocked", "ready = ", "step 2 = blocked", "4 exit -249 = ended", "ready = 2", "step 4 = error 18", "pids = 1 2 3 4 5", "5 fork = error 15", "step 2 = ok 4 7", "pids = 1 2 3 5",
		"2 wait = blocked", "3 exit 256 = ended", "step 2 = ok 3", "2 wait = error 17", "5 exit 3 = ended", "pids = 1 2", "step 1 = blocked", "2 exit 1 = ended", "ready = 1", "step 1 = error 17",
		"1 exit 1 = error 1", "1 kill 1 = error 1", "1 kill 2 = error 18", "1 kill 0 = error 18", "1 kill -1 = error 18", "pids = 1")
	script(t, k, "P24.1",
		"1 fork = ok 6", "6 fork = ok 7", "7 fork = ok 8", "8 sleep 9 = blocked", "6 wait = blocked", "7 kill 8 = ok", "ready = 8", "pending 8 = sleep 9!", "step 8 = ended", "7 wait = ok 8 137",
		"7 kill 7 = ok", "ready = 7", "issue 7 getpid = 0", "step 7 = ended", "ready = 6", "step 6 = ok 7 137", "issue 6 getpid = 0", "1 kill 6 = ok", "1 kill 6 = ok", "step 6 = ended", "pids = 1")
	script(t, k, "P24.1", // a zombie is no more to be killed, and goes with its parent; its children's parent is 1
		"1 fork = ok 9", "9 fork = ok 10", "10 fork = ok 11", "10 exit 1 = ended", "9 kill 10 = error 18", "11 getppid = ok 1", "9 exit 2 = ended", "pids = 1 11", "1 kill 11 = ok", "step 11 = ended", "pids = 1")
}

// P24.1, P24.4: sleep, and the time.
func TestTime(t *testing.T) {
	_, k := boot(t, limits)
	v := k.Tree().Vol()
	script(t, k, "P24.1",
		"1 time = ok", "1 sleep 0 = ok", "1 sleep -1 = error 1", "tick 2 = ", "1 time = ok 2", "1 fork = ok 2", "1 fork = ok 3", "issue 1 sleep 1 = 0", "ready = ", "step 1 = blocked", "2 sleep 3 = blocked", "step 2 = blocked", "3 sleep 2 = blocked",
		"tick 0 = ", "tick -5 = ", "ready = ", "tick 1 = 1", "ready = 1", "step 1 = ok", "step 1 = idle", "tick 1 = 3", "step 2 = blocked", "issue 2 getpid = 22", "tick 5 = 2", "ready = 2 3", "step 3 = ok", "step 2 = ok", "1 time = ok 9",
		"issue 2 sleep 5 = 0", "tick 5 = ", "step 2 = blocked", "tick 4 = ", "tick 1 = 2", "step 2 = ok", "2 sleep 1 = blocked", "tick 1 = 2", "step 2 = ok", "issue 2 sleep 0 = 0", "ready = 2", "step 2 = ok")
	if v.Time() != 20 {
		t.Errorf("P24.1: the volume's time is %d, want 20", v.Time())
	}
	script(t, k, "P24.1", "1 mkdir a = ok 2", "1 stat a = ok 2 128 %02%01%00%14%00%00%00")
	k.Tick(1<<32 - 22)
	script(t, k, "P24.1", "1 time = ok 4294967294", "1 open a/f 11 = ok", "1 stat a/f = ok 3 0 %01%01%00%FE%FF%FF%FF", "tick 1 = ", "1 time = ok 4294967295")
	if v.Time() != math.MaxUint32 {
		t.Errorf("P24.1: the volume's time is %d", v.Time())
	}
	script(t, k, "P24.1", "tick 1 = ", "1 time = ok 4294967296")
	if v.Time() != math.MaxUint32 {
		t.Errorf("P24.1: the volume's time is %d", v.Time())
	}
	script(t, k, "P24.1", "2 sleep 9223372036854775807 = blocked", "tick 9223372036854775807 = 2", "1 time = ok 1099511627776", "step 2 = ok", "2 sleep 1 = blocked", "ready = ", "tick 0 = 2", "step 2 = ok")
	if v.Time() != math.MaxUint32 {
		t.Errorf("P24.1: the volume's time is %d", v.Time())
	}
}

// P24.1: a volume whose time is later than that of processes keeps it.
func TestTimeKept(t *testing.T) {
	_, k := boot(t, limits)
	k.Tree().Vol().SetTime(50)
	script(t, k, "P24.1", "tick 9 = ", "1 mkdir a = ok 2", "1 stat a = ok 2 128 %02%01%002%00%00%00", "1 time = ok 9")
}

// P24.1: open: its flags, its errors in their order.
func TestOpen(t *testing.T) {
	_, k := boot(t, kern.Limits{Files: 4, Fds: 3, Procs: 2})
	script(t, k, "P24.1",
		"1 open f 1 = error 4", "1 open f 11 = ok", "open 0 = 1 2 0 3 1", "1 write 0 hello = ok 5", "1 open f 1 = ok 1", "open 1 = 1 2 0 1 1", "1 open f 27 = error 5", "1 open f 25 = error 5", "1 open . 25 = error 5", "1 open . 27 = error 5",
		"1 open . 3 = error 7", "1 open . 4 = error 7", "1 open / 35 = error 7", "1 open .. 11 = error 7", "1 open . 9 = ok 2", "open 2 = 1 1 0 1 1", "known 1 = 0 0 1 2",
		"1 open f 1 = error 13", "1 open f 0 = error 1", "1 open "+strings.Repeat("a", 4097)+" 1 = error 3", "1 open % 1 = error 13", "1 close 2 = ok",
		"1 open % 1 = error 4", "1 open % 9 = error 4", "1 open a%00 1 = error 1", "1 open "+strings.Repeat("a", 27)+" 9 = error 9", "1 open "+strings.Repeat("a", 256)+" 1 = error 9", "1 open f/ 1 = error 6", "1 open f/g 9 = error 6", "1 open f/ 11 = error 6", "1 open g/ 11 = error 6", "1 open g/.. 11 = error 5", "1 open g/h 11 = error 4", "1 open g/ 1 = error 4",
		"1 open f 34 = ok 2", "1 stat f = ok 2 0 %01%01%00%03%00%00%00", "open 2 = 1 2 0 2 1", "1 read 2 1 = error 2", "1 write 2 ab = ok 2", "1 close 2 = ok", "1 open f 44 = ok 2", "open 2 = 1 2 0 4 1", "1 fstat 2 = ok 2 0 %01%01%00%03%00%00%00", "1 close 2 = ok",
		"1 open g 46 = ok 2", "open 2 = 1 3 0 6 1", "1 close 2 = ok", "1 open g 7 = ok 2", "open 2 = 1 3 0 7 1", "1 fork = ok 2", "2 close 2 = ok", "2 open g 1 = ok 2", "2 close 1 = ok", "2 open g 1 = error 14", "2 open h 11 = error 14", "2 stat h = error 4",
		"1 open h 11 = error 13", "2 close 2 = ok", "2 open h 27 = ok 1", "2 stat h = ok 4 0 %01%01%00%03%00%00%00")
	script(t, k, "P24.1", "2 chdir / = ok", "2 mkdir d = ok 5", "2 chdir d = ok", "2 close 1 = ok", "2 open x 11 = ok 1", "2 stat /d/x = ok 6 0 %01%01%00%03%00%00%00", "1 stat x = error 4")
}

// P24.1: a file is made, or written to, or gets a name, where there is room for it alone.
func TestOpenRoom(t *testing.T) {
	_, k := boot(t, limits)
	for i := 2; i <= small.Inodes; i++ {
		script(t, k, "P24.1", "1 open f"+numbers(i)+" 11 = ok", "1 close 0 = ok")
	}
	script(t, k, "P24.1", "1 open g 11 = error 11", "1 open f2 11 = ok", "1 unlink f3 = ok", "1 open g 11 = ok 1", "1 write 1 "+strings.Repeat("a", 4096)+" = ok 4096", "1 seek 1 130004 = ok 32501", "1 write 1 "+strings.Repeat("b", 4096)+" = ok 4096", "1 write 1 "+strings.Repeat("c", 4096)+" = ok 267", "1 write 1 a = error 11", "1 seek 1 1 = ok 36864", "1 write 1 % = ok",
		"1 mkdir d = error 11", "1 link g h = error 11", "1 rename g h = error 11", "1 unlink f4 = ok", "1 link g h = ok", "1 mkdir d = error 11", "1 unlink h = ok", "1 truncate 1 0 = ok", "1 fstat 1 = ok 3 0 %01%01%00%03%00%00%00", "known 1 = 0 0 1")
}

// P24.1: read, write and seek of files.
func TestFiles(t *testing.T) {
	_, k := boot(t, limits)
	script(t, k, "P24.1",
		"1 open f 15 = ok", "1 write 0 hello = ok 5", "open 0 = 1 2 5 7 1", "1 read 0 9 = ok", "1 seek 0 4 = ok 1", "1 read 0 0 = ok", "1 read 0 2 = ok 2 0 el", "open 0 = 1 2 3 7 1", "1 write 0 XY = ok 2", "open 0 = 1 2 7 7 1", "1 seek 0 0 = ok", "1 read 0 99 = ok 7 0 helloXY",
		"1 seek 0 0 = ok", "1 write 0 % = ok", "open 0 = 1 2 7 7 1", "1 open f 3 = ok 1", "1 write 1 J = ok 1", "1 read 1 3 = ok 3 0 ell", "1 write 1 % = ok", "open 1 = 1 2 4 3 1",
		"1 seek 1 -12 = error 1", "1 seek 1 -11 = ok 1", "1 seek 1 -7 = error 1", "1 seek 1 2 = ok 7", "1 seek 1 -2 = ok 6", "1 seek 1 -26 = ok", "1 seek 1 -30 = error 1", "1 seek 1 6 = ok 8", "1 seek 1 5 = ok 9", "1 seek 1 3 = error 1", "1 seek 1 -1 = error 1", "1 seek 1 7 = error 1", "1 seek 1 -5 = error 1",
		"1 seek 1 544768 = ok 136192", "1 seek 1 544772 = error 1", "1 seek 1 5 = error 1", "1 seek 1 1 = ok 136192", "1 seek 1 9223372036854775804 = error 1", "1 seek 1 9223372036854775805 = error 1", "1 seek 1 9223372036854775806 = error 1", "1 seek 1 -9223372036854775808 = error 1", "1 seek 1 -9223372036854775807 = error 1", "1 seek 1 -9223372036854775806 = error 1",
		"open 1 = 1 2 136192 3 1", "1 write 1 a = error 12", "1 write 1 % = ok", "1 read 1 5 = ok", "1 seek 1 544764 = ok 136191", "1 write 1 ab = ok 1", "open 1 = 1 2 136192 3 1", "1 fstat 0 = ok 2 136192 %01%01%00%03%00%00%00", "1 write 0 a = error 12", "open 0 = 1 2 7 7 1",
		"1 seek 1 36 = ok 9", "1 read 1 3 = ok 3 0 %00%00%00", "1 truncate 1 2 = ok", "open 1 = 1 2 12 3 1", "1 read 1 3 = ok", "1 write 1 z = ok 1", "1 fstat 1 = ok 2 13 %01%01%00%03%00%00%00", "1 seek 1 0 = ok", "1 read 1 13 = ok 13 0 Je%00%00%00%00%00%00%00%00%00%00z",
		"1 truncate 1 136193 = error 12", "1 truncate 1 -1 = error 1", "1 truncate 1 20 = ok", "1 fstat 1 = ok 2 20 %01%01%00%03%00%00%00", "1 read 1 4096 = ok 7 0 %00%00%00%00%00%00%00", "1 read 1 -1 = error 1", "1 read 1 4097 = error 3")
}

// P24.1: what may not be done, or isn't known.
func TestFdErrors(t *testing.T) {
	_, k := boot(t, limits)
	script(t, k, "P24.1", "1 open f 9 = ok", "1 open f 2 = ok 1", "1 open f 4 = ok 2", "1 open / 1 = ok 3")
	for _, n := range []string{"4", "6", "-1", "9223372036854775807", "-9223372036854775808"} {
		for _, call := range []string{"close X", "read X 1", "read X 0", "write X a", "write X %", "seek X 0", "seek X 3", "dup X", "dup2 X 0", "dup2 X 9", "fstat X", "list X", "truncate X 0", "fsync X"} {
			script(t, k, "P24.1", "1 "+strings.ReplaceAll(call, "X", n)+" = error 2")
		}
	}
	script(t, k, "P24.1",
		"1 write 0 a = error 2", "1 write 0 % = error 2", "1 truncate 0 0 = error 2", "1 list 0 = error 6", "1 read 1 1 = error 2", "1 list 1 = error 2", "1 truncate 1 3 = ok", "1 read 2 1 = error 2", "1 truncate 2 4 = ok", "1 list 2 = error 2",
		"1 read 3 1 = error 7", "1 read 3 0 = error 7", "1 write 3 a = error 2", "1 truncate 3 0 = error 2", "1 seek 3 2 = ok 128", "1 seek 3 0 = ok", "1 fsync 3 = ok", "1 fstat 3 = ok 1 128 %02%01%00%03%00%00%00", "1 list 3 = ok 2 0 %01%00%02..%02%00%01f",
		"1 pipe = ok 4 5", "1 write 4 a = error 2", "1 read 5 1 = error 2", "1 seek 4 0 = error 19", "1 seek 5 3 = error 19", "1 fstat 4 = error 19", "1 fstat 5 = error 19", "1 list 4 = error 19", "1 list 5 = error 2", "1 truncate 4 0 = error 2", "1 truncate 5 0 = error 19", "1 truncate 5 -1 = error 1", "1 fsync 4 = ok", "1 fsync 5 = ok",
		"1 dup 0 = error 13", "1 pipe = error 13", "1 open f 1 = error 13", "1 dup2 0 6 = error 2", "1 dup2 0 -1 = error 2", "known 1 = 0 0 1 2 3 4 5")
}

// P24.1, P24.2: dup, dup2 and close: refs.
func TestDup(t *testing.T) {
	_, k := boot(t, limits)
	script(t, k, "P24.2",
		"1 open f 11 = ok", "1 dup 0 = ok 1", "open 0 = 1 2 0 3 2", "1 write 1 ab = ok 2", "open 0 = 1 2 2 3 2", "1 dup2 0 4 = ok 4", "open 0 = 1 2 2 3 3", "1 dup2 4 4 = ok 4", "open 0 = 1 2 2 3 3", "1 dup2 4 1 = ok 1", "open 0 = 1 2 2 3 3", "known 1 = 0 0 1 4",
		"1 dup2 3 3 = error 2", "1 open g 11 = ok 2", "1 unlink g = ok", "used = 1 2 3", "1 dup2 0 2 = ok 2", "used = 1 2", "open 0 = 1 2 2 3 4", "open 1 = 0 0 0 0 0", "1 unlink f = ok", "1 close 0 = ok", "1 close 0 = error 2", "1 close 2 = ok", "1 close 4 = ok", "used = 1 2", "open 0 = 1 2 2 3 1", "1 fstat 1 = ok 2 2 %01%00%00%03%00%00%00", "1 close 1 = ok", "used = 1", "known 1 = 0")
	script(t, k, "P24.2",
		"1 pipe = ok 0 1", "1 dup2 0 1 = ok 1", "ends 1 = 1 0 0", "open 0 = 2 1 0 1 2", "open 1 = 0 0 0 0 0", "1 read 1 5 = ok", "1 close 0 = ok", "1 dup 1 = ok", "1 close 1 = ok", "1 close 0 = ok", "ends 1 = 0 0 2")
}

// P24.1, P24.2: pipes: what waits, their ends.
func TestPipes(t *testing.T) {
	_, k := boot(t, kern.Limits{Files: 5, Fds: 4, Procs: 3})
	full := strings.Repeat("x", 60)
	script(t, k, "P24.1",
		"1 pipe = ok 0 1", "open 0 = 2 1 0 1 1", "open 1 = 3 1 0 2 1", "ends 1 = 1 1 0", "1 read 0 0 = ok", "1 write 1 % = ok", "1 fork = ok 2", "ends 1 = 1 1 0", "open 0 = 2 1 0 1 2", "2 read 0 9 = blocked", "step 2 = blocked", "ready = ", "1 write 1 abc = ok 3", "open 1 = 3 1 0 2 2", "ready = 2", "step 2 = ok 3 0 abc", "open 0 = 2 1 0 1 2",
		"1 write 1 "+full+" = ok 60", "1 write 1 12345 = ok 4", "1 write 1 5 = blocked", "ready = ", "2 write 1 % = ok", "2 read 0 0 = ok", "2 read 0 62 = ok 62 0 "+full+"12", "ready = 1", "step 1 = ok 1", "2 read 0 99 = ok 3 0 345",
		"2 read 0 1 = blocked", "1 close 1 = ok", "step 2 = blocked", "2 close 1 = issue 22", "1 kill 2 = ok", "step 2 = ended", "ends 1 = 1 0 0", "1 read 0 1 = ok", "1 close 0 = ok", "ends 1 = 0 0 2")
	script(t, k, "P24.1", // who waits for bytes gets none, as the last end to write to is gone; who waits for room has nobody to write to
		"1 pipe = ok 0 1", "1 fork = ok 3", "1 fork = ok 4", "3 close 1 = ok", "3 read 0 1 = blocked", "1 close 1 = ok", "step 3 = blocked", "4 close 1 = ok", "ready = 3", "step 3 = ok", "1 close 0 = ok", "3 close 0 = ok", "ends 1 = 1 0 0", "4 exit 0 = ended", "ends 1 = 0 0 2",
		"1 pipe = ok 0 1", "1 close 0 = ok", "1 write 1 a = error 16", "1 write 1 % = ok", "1 close 1 = ok", "1 pipe = ok 0 1", "1 fork = ok 5", "5 close 0 = ok", "5 write 1 "+strings.Repeat("y", 100)+" = ok 64", "5 write 1 z = blocked", "3 getpid = ok 3", "1 close 0 = ok", "ready = 5", "step 5 = error 16", "1 close 1 = ok", "5 exit 1 = ended", "ends 1 = 0 0 2")
	script(t, k, "P24.1", // how many there may be
		"1 pipe = ok 0 1", "1 pipe = ok 2 3", "ends 2 = 1 1 0", "1 pipe = error 13", "1 close 1 = ok", "1 pipe = error 13", "1 close 2 = ok", "1 dup2 0 1 = ok 1", "1 close 0 = ok", "1 open / 1 = ok", "3 open / 1 = ok", "3 open / 1 = ok 1", "3 pipe = error 14", "1 close 0 = ok", "known 1 = 0 1 3", "3 pipe = error 14", "3 close 1 = ok", "3 pipe = ok 1 2", "ends 3 = 1 1 0")
}

// P24.1: a pipe can't be made where the others are all there.
func TestPipesAll(t *testing.T) {
	_, k := boot(t, kern.Limits{Files: 3, Fds: 4, Procs: 3})
	for range 3 {
		k.Pipes().Make()
	}
	script(t, k, "P24.1", "1 pipe = error 14", "known 1 = 0", "1 open / 1 = ok")
	if k.Files().Count() != 1 || k.Pipes().Count() != 3 {
		t.Errorf("P24.1: %d files, %d pipes", k.Files().Count(), k.Pipes().Count())
	}
}

// P24.2: what a child knows, and what ends with a process.
func TestFork(t *testing.T) {
	_, k := boot(t, limits)
	script(t, k, "P24.2",
		"1 mkdir a = ok 2", "1 chdir a = ok", "1 open f 11 = ok", "1 open f 1 = ok 1", "1 dup2 1 5 = ok 5", "1 close 1 = ok", "1 pipe = ok 1 2", "1 fork = ok 2", "known 2 = 0 0 1 2 5", "home 2 = 0 2", "open 0 = 1 3 0 3 2", "open 1 = 1 3 0 1 2", "open 2 = 2 1 0 1 2", "open 3 = 3 1 0 2 2", "ends 1 = 1 1 0",
		"2 write 0 hello = ok 5", "1 seek 0 1 = ok 5", "1 close 0 = ok", "2 dup 5 = ok 3", "known 1 = 0 1 2 5", "known 2 = 0 0 1 2 3 5", "2 chdir / = ok", "home 1 = 0 2", "home 2 = 0 1", "1 unlink f = ok", "1 rmdir ../a = ok", "used = 1 2 3", "1 getcwd = error 4",
		"2 fork = ok 3", "3 chdir /a = error 4", "1 chdir . = ok", "1 chdir .. = error 4", "1 chdir / = ok", "used = 1 3", "1 close 5 = ok", "2 exit 0 = ended", "open 0 = 1 3 5 3 1", "open 1 = 1 3 0 1 2", "1 kill 3 = ok", "used = 1 3", "step 3 = ended", "used = 1", "open 0 = 0 0 0 0 0", "open 2 = 2 1 0 1 1", "ends 1 = 1 1 0", "known 1 = 0 1 2", "pids = 1")
	if n := holds(k.Tree(), 1); n != 1 {
		t.Errorf("P24.2: Root is held %d times", n)
	}
}

// P24.1: calls of names.
func TestNames(t *testing.T) {
	_, k := boot(t, limits)
	script(t, k, "P24.1",
		"1 mkdir a = ok 2", "1 mkdir a = error 5", "1 mkdir a/b/ = ok 3", "1 mkdir / = error 5", "1 mkdir x/y = error 4", "1 chdir a = ok", "1 getcwd = ok 0 0 /a", "1 mkdir c = ok 4", "1 open f 11 = ok", "1 mkdir f/x = error 6", "1 link f g = ok", "1 stat g = ok 5 0 %01%02%00%03%00%00%00", "1 link f g = error 5", "1 link b h = error 7", "1 link x h = error 4", "1 link f b/ = error 5", "1 link f x/ = error 6",
		"1 rename g b/g = ok", "1 stat g = error 4", "1 rename b c = ok", "1 stat c/g = ok 5 0 %01%02%00%03%00%00%00", "1 rename c c/d = error 1", "1 rename x y = error 4", "1 rename f c = error 7", "1 rename c f = error 6", "1 rename . x = error 22", "1 rename .. x = error 22", "1 rename f f = ok", "1 rmdir c = error 8", "1 rmdir f = error 6", "1 rmdir . = error 22", "1 rmdir x = error 4", "1 unlink c = error 7", "1 unlink c/g = ok", "1 unlink c/g = error 4", "1 unlink f/ = error 6", "1 unlink / = error 22", "1 rmdir c = ok",
		"1 stat f = ok 5 0 %01%01%00%03%00%00%00", "1 stat . = ok 2 128 %02%01%00%03%00%00%00", "1 stat % = error 4", "1 stat f/ = error 6", "1 stat f/x = error 6", "1 stat a%00 = error 1", "1 chdir f = error 6", "1 chdir x = error 4", "1 chdir % = error 4", "1 chdir "+strings.Repeat("a/", 33)+" = error 9", "home 1 = 0 2", "1 chdir /../. = ok", "1 getcwd = ok 0 0 /", "1 stat a/f = ok 5 0 %01%01%00%03%00%00%00",
		"1 link a/f /z = ok", "1 open / 1 = ok 1", "1 list 1 = ok 3 0 %01%00%02..%02%00%01a%05%00%01z", "1 sync = ok", "1 fsync 0 = ok", "1 unlink a/f = ok", "1 rmdir a = ok", "1 list 1 = ok 2 0 %01%00%02..%05%00%01z")
	for _, call := range []string{"link f", "rename f", "unlink", "mkdir", "rmdir", "chdir", "stat", "link", "rename"} {
		line := "1 " + call + " " + strings.Repeat("a", 4097)
		if call == "link" || call == "rename" {
			line += " b"
		}
		script(t, k, "P24.1", line+" = error 3")
	}
}

// P24.1: a directory that is open, or where a process is, and has no name any more.
func TestLost(t *testing.T) {
	_, k := boot(t, limits)
	script(t, k, "P24.2",
		"1 mkdir a = ok 2", "1 open a 1 = ok", "1 list 0 = ok 1 0 %01%00%02..", "1 chdir a = ok", "1 rmdir /a = ok", "1 list 0 = ok", "1 fstat 0 = ok 2 0 %02%00%00%03%00%00%00", "1 stat . = ok 2 0 %02%00%00%03%00%00%00", "1 stat .. = error 4", "1 getcwd = error 4", "1 open x 11 = error 4", "1 mkdir x = error 4", "1 seek 0 2 = ok", "1 chdir / = ok", "used = 1 2", "1 close 0 = ok", "used = 1")
}

// P24.1: names of any bytes and lengths, in a list.
func TestList(t *testing.T) {
	_, k := boot(t, limits)
	long := strings.Repeat("n", 26)
	script(t, k, "P24.1",
		"1 mkdir "+long+" = ok 2", "1 open %FF%20%01 11 = ok", "1 open / 1 = ok 1", "1 list 1 = ok 3 0 %01%00%02..%02%00%1A"+long+"%03%00%03%FF%20%01", "1 read 1 0 = error 7")
}

// rule 5: an answer is new memory.
func TestMemory(t *testing.T) {
	_, k := boot(t, limits)
	script(t, k, "P24.1", "1 open f 11 = ok", "1 write 0 hello = ok 5", "1 pipe = ok 1 2", "1 write 2 world = ok 5")
	for _, call := range []sys.Call{{Op: sys.Read, A: 0, B: 9}, {Op: sys.Getcwd}, {Op: sys.Fstat}, {Op: sys.Stat, S: "f"}} {
		k.Issue(1, sys.Call{Op: sys.Seek})
		k.Step(1)
		k.Issue(1, call)
		v, _ := k.Step(1)
		was := string(v.Answer.Data)
		for i := range v.Answer.Data {
			v.Answer.Data[i] = 'x'
		}
		k.Issue(1, sys.Call{Op: sys.Seek})
		k.Step(1)
		k.Issue(1, call)
		if v, _ := k.Step(1); string(v.Answer.Data) != was || was == "" {
			t.Errorf("P24.1: %s = %q, and then %q", call.Text(), was, v.Answer.Data)
		}
	}
	known, _ := k.Known(1)
	known[0] = 7
	script(t, k, "P24.1", "known 1 = 0 0 1 2")
}

// P1: of what was done to a kernel's parts otherwise each call ends, and ErrSrch is what proc's Live tells.
func TestOtherwise(t *testing.T) {
	change := map[string]func(k *kern.Kernel){
		"a process that came otherwise":         func(k *kern.Kernel) { k.Procs().Fork(1) },
		"one of which it came, and that ended":  func(k *kern.Kernel) { k.Procs().Fork(2); k.Procs().Exit(2, 1) },
		"a process that ended otherwise":        func(k *kern.Kernel) { k.Procs().Exit(2, 1) },
		"one that was waited for":               func(k *kern.Kernel) { k.Procs().Exit(3, 1); k.Procs().Wait(2) },
		"one that was killed":                   func(k *kern.Kernel) { k.Procs().Kill(3) },
		"one that sleeps otherwise":             func(k *kern.Kernel) { k.Procs().Sleep(2, 3) },
		"1 sleeps otherwise":                    func(k *kern.Kernel) { k.Procs().Sleep(1, 3) },
		"the time went on":                      func(k *kern.Kernel) { k.Procs().Tick(9) },
		"files that were closed":                func(k *kern.Kernel) { k.Files().Close(0); k.Files().Close(0); k.Files().Close(2) },
		"files that were closed, and others":    func(k *kern.Kernel) { closeAll(k); k.Files().Open(fd.Out, 9, 7); k.Files().Open(fd.Inode, 99, 7) },
		"pipes in place of files":               func(k *kern.Kernel) { closeAll(k); k.Files().Open(fd.In, 1, 7); k.Files().Open(fd.Out, 1, 7) },
		"directories in place of files":         func(k *kern.Kernel) { closeAll(k); k.Files().Open(fd.Inode, 1, 7); k.Files().Open(fd.Inode, 2, 7) },
		"no files any more":                     closeAll,
		"all files":                             func(k *kern.Kernel) { openAll(k) },
		"files that stand far behind":           func(k *kern.Kernel) { k.Files().Move(0, math.MaxInt); k.Files().Move(1, math.MaxInt) },
		"a pipe without ends to write":          func(k *kern.Kernel) { k.Pipes().Add(1, 0, -1) },
		"no pipes any more":                     func(k *kern.Kernel) { k.Pipes().Add(1, -1, -1) },
		"all pipes":                             func(k *kern.Kernel) { makeAll(k) },
		"a directory that isn't held any more":  func(k *kern.Kernel) { k.Tree().Drop(2); k.Tree().Drop(2); k.Tree().Rmdir(1, "a") },
		"a file that is gone":                   func(k *kern.Kernel) { k.Tree().Drop(3); k.Tree().Unlink(1, "f") },
		"a file that is gone from the volume":   func(k *kern.Kernel) { k.Tree().Vol().Delete(3) },
		"a directory that is gone likewise":     func(k *kern.Kernel) { k.Tree().Vol().Delete(2) },
		"a directory that isn't one any more":   func(k *kern.Kernel) { k.Tree().Vol().Write(2, 5, []byte("junk")) },
		"a file whose links are as many as can": func(k *kern.Kernel) { k.Tree().Vol().Link(3, api.MaxLinks-1) },
	}
	for what, change := range change {
		_, k := boot(t, limits)
		script(t, k, what, "1 mkdir a = ok 2", "1 chdir a = ok", "1 open /f 11 = ok", "1 open /a 1 = ok 1", "1 pipe = ok 2 3", "1 fork = ok 2", "2 fork = ok 3")
		change(k)
		for pid := range 7 {
			for n := range 6 {
				for op := range 31 {
					tryAll(t, k, what, pid, sys.Call{Op: op, A: n, B: op * n, S: []string{".", "/a", "x", "..", "/f", "/"}[n], T: []string{"y", "/f", "/z", "a", "../x", "x/y"}[n], Data: make([]byte, op*n)})
				}
			}
		}
	}
}

func closeAll(k *kern.Kernel) {
	for id := range 9 {
		for range 5 {
			k.Files().Close(id)
		}
	}
}

func openAll(k *kern.Kernel) {
	for range 9 {
		k.Files().Open(fd.Inode, 3, 3)
	}
}

func makeAll(k *kern.Kernel) {
	for range 9 {
		k.Pipes().Make()
	}
}

// tryAll: all calls of a kernel, with a process's call.
func tryAll(t *testing.T, k *kern.Kernel, what string, pid int, c sys.Call) {
	t.Helper()
	live := k.Procs().Live(pid)
	_, e := k.Known(pid)
	_, f := k.Home(pid)
	if e != live || f != live {
		t.Fatalf("P24.1: %s: Known, Home of %d = %v, %v, want %v", what, pid, e, f, live)
	}
	if e := k.Issue(pid, c); (e == api.ErrSrch) != (live == api.ErrSrch) {
		t.Fatalf("P24.1: %s: Issue of %d = %v, want %v", what, pid, e, live)
	}
	k.Pending(pid)
	ready := slices.Contains(k.Ready(), pid)
	v, e := k.Step(pid)
	if e != live || ready != (v.What == kern.Done || v.What == kern.Ended) {
		t.Fatalf("P24.4: %s: Step of %d, %s = %v, %v; ready %v", what, pid, c.Text(), v, e, ready)
	}
	if c.Op == 17 {
		k.Tick(1)
	}
}

// P1: any numbers.
func TestAny(t *testing.T) {
	_, k := boot(t, limits)
	script(t, k, "P1", "1 open f 11 = ok", "1 pipe = ok 1 2", "1 fork = ok 2")
	edges := []int{math.MinInt, math.MinInt + 1, -1 << 40, -2, -1, 0, 1, 2, 3, 4, 64, 4096, 1 << 40, math.MaxInt - 1, math.MaxInt}
	for _, pid := range edges {
		for _, a := range edges {
			for op := range 32 {
				tryAll(t, k, "any", pid, sys.Call{Op: op - 1, A: a, B: edges[(op+a&7)%len(edges)], S: "f", T: "g"})
			}
		}
	}
	for _, n := range edges {
		k.Tick(n)
	}
}

// the document's ten examples, as far as they are a kernel's.
func TestExamples(t *testing.T) {
	for _, lines := range [][]string{
		{"1 mkdir a = ok 2", "1 open a/f 11 = ok", "1 write 0 hi = ok 2", "1 stat a/f = ok 3 2 %01%01%00%03%00%00%00"},
		{"1 pipe = ok 0 1", "1 fork = ok 2", "2 read 0 9 = blocked", "1 write 1 abc = ok 3", "step 2 = ok 3 0 abc"},
		{"1 fork = ok 2", "2 exit 7 = ended", "1 wait = error 17", "1 wait = error 17"},
		{"1 fork = ok 2", "2 fork = ok 3", "3 exit 7 = ended", "2 wait = ok 3 7"},
		{"1 open f 11 = ok", "1 unlink f = ok", "1 write 0 x = ok 1", "1 fstat 0 = ok 2 1 %01%00%00%03%00%00%00", "1 close 0 = ok", "used = 1"},
		{"1 mkdir a = ok 2", "1 mkdir a/b = ok 3", "1 rename a a/b/c = error 1", "1 rename a/b /b = ok"},
		{"1 fork = ok 2", "2 sleep 3 = blocked", "ready = ", "tick 2 = ", "tick 1 = 2", "ready = 2", "step 2 = ok"},
	} {
		_, k := boot(t, kern.Limits{Files: 16, Fds: 8, Procs: 8})
		script(t, k, "P24.1", lines...)
	}
}
