package trace_test

import (
	"slices"
	"strings"
	"testing"

	"drumlin/api"
	"drumlin/disk"
	"drumlin/fs"
	"drumlin/geom"
	"drumlin/kern"
	"drumlin/sys"
	"drumlin/trace"
	"drumlin/tree"
	"drumlin/usage"
)

var shape = geom.Geom{Segs: 20, Groups: 2, Inodes: 20}

// boot: a kernel on an empty tree.
func boot(t *testing.T) *kern.Kernel {
	t.Helper()
	d, e := disk.New(shape.Sectors())
	if e != api.OK {
		t.Fatal(e)
	}
	made, e := tree.Format(d, shape, 7)
	if e != api.OK {
		t.Fatal(e)
	}
	return kern.Boot(made, kern.Limits{Files: 16, Fds: 8, Procs: 8})
}

// step: a process's turn, with a call (none: with what is pending, or nothing): its line, which must be read as it was.
func step(t *testing.T, k *kern.Kernel, pid int, text string) (string, sys.Answer) {
	t.Helper()
	if text != "" {
		c, e := sys.Parse(text)
		if e != api.OK || k.Issue(pid, c) != api.OK {
			t.Fatalf("%q isn't to be done", text)
		}
	}
	c, _ := k.Pending(pid)
	v, e := k.Step(pid)
	if e != api.OK {
		t.Fatalf("a step of %d: %v", pid, e)
	}
	line := trace.Event(v, c)
	want := trace.Step{Pid: pid, What: v.What}
	if v.What == kern.Done || v.What == kern.Blocked {
		want.Call = c
	}
	if v.What == kern.Done {
		want.Answer = v.Answer.Text()
	}
	if x, e := trace.Parse(line); e != api.OK || !same(x, want) {
		t.Errorf("P25.1: Parse(%q) = %v, %v", line, x, e)
	}
	return line, v.Answer
}

// P25.1: what a kernel does, as lines (the document's examples 4 and 5, and others).
func TestKernel(t *testing.T) {
	k := boot(t)
	for _, x := range []struct {
		pid        int
		call, want string
	}{
		{1, "pipe", "1 pipe : ok 0 1"},
		{1, "fork", "1 fork : ok 2"},
		{1, "", "1 idle"},
		{2, "read 0 9", "2 read 0 9 blocked"},
		{2, "", "2 read 0 9 blocked"},
		{1, "write 1 a%20b", "1 write 1 a%20b : ok 3"},
		{2, "", "2 read 0 9 : ok 3 0 a%20b"},
		{2, "exit 7", "2 ended"},
		{1, "wait", "1 wait : error 17"},
		{1, "open % 1", "1 open % 1 : error 4"},
		{1, "mkdir d", "1 mkdir d : ok 2"},
		{1, "getcwd", "1 getcwd : ok 0 0 /"},
	} {
		if line, _ := step(t, k, x.pid, x.call); line != x.want {
			t.Errorf("P25.1: %q, want %q", line, x.want)
		}
	}
}

// P25.4: what a kernel's answers have is what its tree tells.
func TestKernelAnswers(t *testing.T) {
	k := boot(t)
	k.Tick(300)
	for _, call := range []string{"mkdir d", "open d/f 11", "write 0 hello", "link d/f d/g", "open d 1", "mkdir d/sub"} {
		if line, _ := step(t, k, 1, call); !strings.Contains(line, " : ok") {
			t.Fatal(line)
		}
	}
	for call, num := range map[string]int{"stat d": 2, "stat d/g": 3, "fstat 0": 3, "stat /": 1} {
		_, a := step(t, k, 1, call)
		want, _ := k.Tree().Stat(num)
		n, size, kind, links, time, e := trace.Stat(a)
		if got := (tree.Stat{Num: n, Kind: kind, Size: size, Links: links, Time: uint32(time)}); e != api.OK || got != want {
			t.Errorf("P25.4: Stat of %q = %v, %v; want %v", call, got, e, want)
		}
		if _, _, e := trace.List(a); e != api.ErrForm {
			t.Errorf("P25.4: List of %q: %v", call, e)
		}
	}
	_, a := step(t, k, 1, "list 1")
	names, nums, e := trace.List(a)
	if e != api.OK || !slices.Equal(names, []string{"..", "f", "g", "sub"}) || !slices.Equal(nums, []int{1, 3, 3, 4}) {
		t.Errorf("P25.4: List = %q, %v, %v", names, nums, e)
	}
	_, a = step(t, k, 1, "stat nothing")
	if _, _, _, _, _, e := trace.Stat(a); e != api.ErrForm {
		t.Errorf("P25.4: Stat of an error: %v", e)
	}
	if _, _, e := trace.List(a); e != api.ErrForm {
		t.Errorf("P25.4: List of an error: %v", e)
	}
}

// P25.2, P25.3: a tree as text, of which it is made again; and the segments of its volume.
func TestKernelTree(t *testing.T) {
	k := boot(t)
	for _, call := range []string{"mkdir d", "open d/f 11", "write 0 hello%20you%0A", "link d/f l", "open e%3A 11", "mkdir d/x", "sync"} {
		if line, _ := step(t, k, 1, call); !strings.Contains(line, " : ok") {
			t.Fatal(line)
		}
	}
	items, e := fs.Dump(k.Tree())
	text := trace.Items(items)
	if e != api.OK || text != "d /d\nf /d/f hello%20you%0A\nd /d/x\nf /e%3A %\nl /l /d/f\n" {
		t.Fatalf("P25.2: %v, %q", e, text)
	}
	back, e := trace.ParseItems(text)
	if e != api.OK {
		t.Fatalf("P25.2: ParseItems(%q): %v", text, e)
	}
	other := boot(t).Tree()
	if e := fs.Restore(other, back...); e != api.OK {
		t.Fatalf("P25.2: Restore: %v", e)
	}
	if again, e := fs.Dump(other); e != api.OK || trace.Items(again) != text {
		t.Errorf("P25.2: made again: %q, %v", trace.Items(again), e)
	}

	uses := k.Tree().Vol().Uses()
	signs := trace.Uses(uses, shape.Cap())
	if len(signs) != shape.Segs || strings.Count(signs, "o") < 1 || strings.Count(signs, ".") < 10 {
		t.Errorf("P25.3: Uses = %q of %v", signs, uses)
	}
	for i, u := range uses {
		if want := map[int]string{usage.Clean: ".", usage.Open: "o", usage.Held: "h", usage.Dirty: "0123456789"}[u.State]; !strings.Contains(want, signs[i:i+1]) {
			t.Errorf("P25.3: the sign of %v is %q", u, signs[i])
		}
	}
}
