package sys_test

import (
	"math"
	"reflect"
	"strings"
	"testing"

	"drumlin/api"
	"drumlin/sys"
)

// table is the document's: of each call its name, and what it has.
var table = []struct {
	op   int
	name string
	has  string
}{
	{sys.Fork, "fork", ""}, {sys.Exit, "exit", "A"}, {sys.Wait, "wait", ""}, {sys.Kill, "kill", "A"}, {sys.Sleep, "sleep", "A"},
	{sys.Getpid, "getpid", ""}, {sys.Open, "open", "S A"}, {sys.Close, "close", "A"}, {sys.Read, "read", "A B"}, {sys.Write, "write", "A Data"},
	{sys.Seek, "seek", "A B"}, {sys.Dup, "dup", "A"}, {sys.Dup2, "dup2", "A B"}, {sys.Pipe, "pipe", ""}, {sys.Link, "link", "S T"},
	{sys.Unlink, "unlink", "S"}, {sys.Rename, "rename", "S T"}, {sys.Mkdir, "mkdir", "S"}, {sys.Rmdir, "rmdir", "S"}, {sys.Chdir, "chdir", "S"},
	{sys.Stat, "stat", "S"}, {sys.Fstat, "fstat", "A"}, {sys.List, "list", "A"}, {sys.Truncate, "truncate", "A B"}, {sys.Sync, "sync", ""},
	{sys.Fsync, "fsync", "A"}, {sys.Getcwd, "getcwd", ""}, {sys.Getppid, "getppid", ""}, {sys.Time, "time", ""},
}

// others are numbers of no call.
var others = []int{math.MinInt, -1, 0, 30, 31, 256, math.MaxInt}

// full has all that a call may have.
func full(op int) sys.Call {
	return sys.Call{Op: op, A: 17, B: -5, S: "s s", T: "t", Data: []byte("d%")}
}

// plain: what is left of a call, by the table.
func plain(c sys.Call) sys.Call {
	x := sys.Call{Op: c.Op}
	if c.Op < 1 || c.Op > len(table) {
		return x
	}
	for _, field := range strings.Fields(table[c.Op-1].has) {
		to, from := reflect.ValueOf(&x).Elem(), reflect.ValueOf(c)
		to.FieldByName(field).Set(from.FieldByName(field))
	}
	return x
}

// same: are they alike, none and an empty list being the same?
func same(a, b sys.Call) bool {
	return a.Op == b.Op && a.A == b.A && a.B == b.B && a.S == b.S && a.T == b.T && string(a.Data) == string(b.Data)
}

// P23.1: numbers and names of calls, as the document has them.
func TestNames(t *testing.T) {
	for i, x := range table {
		if x.op != i+1 || sys.Name(i+1) != x.name {
			t.Errorf("P23.1: Name(%d) = %q, want %q", i+1, sys.Name(i+1), x.name)
		}
	}
	for _, op := range others {
		if s := sys.Name(op); s != "" {
			t.Errorf("P23.1: Name(%d) = %q", op, s)
		}
	}
	for i, flag := range []int{sys.ORead, sys.OWrite, sys.OAppend, sys.OCreate, sys.OExcl, sys.OTrunc} {
		if flag != 1<<i {
			t.Errorf("P23.1: the flag %d is %d", i, flag)
		}
	}
}

// P23.1: a plain call has what its Op has, and nothing else.
func TestPlain(t *testing.T) {
	for _, x := range table {
		if c, want := full(x.op).Plain(), plain(full(x.op)); !same(c, want) {
			t.Errorf("P23.1: Plain of %s = %v, want %v", x.name, c, want)
		}
		if c := (sys.Call{Op: x.op}).Plain(); !same(c, sys.Call{Op: x.op}) {
			t.Errorf("P23.1: Plain of an empty %s = %v", x.name, c)
		}
	}
	for _, op := range others {
		if c := full(op).Plain(); !same(c, sys.Call{Op: op}) {
			t.Errorf("P23.1: Plain of %d = %v", op, c)
		}
	}
}

// P23.1: Data are other memory, which nobody else has.
func TestPlainMemory(t *testing.T) {
	room := []byte("abcd")
	c := sys.Call{Op: sys.Write, Data: room[:2]}
	p := c.Plain()
	p.Data[0] = 'x'
	p.Data = append(p.Data, 'y')
	if string(room) != "abcd" {
		t.Errorf("P23.1: Plain handed its Data on: %q", room)
	}
	p = c.Plain()
	room[1] = 'z'
	if string(p.Data) != "ab" {
		t.Errorf("P23.1: Plain kept Data: %q", p.Data)
	}
}

// long is a text of so many bytes.
func long(n int) string { return strings.Repeat("a", n) }

// P23.1: what is wrong with a call by itself.
func TestCheck(t *testing.T) {
	for _, x := range []struct {
		what string
		call sys.Call
		want api.Errno
	}{
		{"exit of anything", sys.Call{Op: sys.Exit, A: math.MinInt}, api.OK},
		{"kill of anything", sys.Call{Op: sys.Kill, A: -1}, api.OK},
		{"sleep of nothing", sys.Call{Op: sys.Sleep}, api.OK},
		{"sleep without end", sys.Call{Op: sys.Sleep, A: math.MaxInt}, api.OK},
		{"sleep below 0", sys.Call{Op: sys.Sleep, A: -1}, api.ErrInval},
		{"sleep far below 0", sys.Call{Op: sys.Sleep, A: math.MinInt}, api.ErrInval},
		{"sleep with another B", sys.Call{Op: sys.Sleep, B: -1}, api.OK},
		{"read of nothing", sys.Call{Op: sys.Read}, api.OK},
		{"read below 0", sys.Call{Op: sys.Read, B: -1}, api.ErrInval},
		{"read of most", sys.Call{Op: sys.Read, B: 4096}, api.OK},
		{"read of more", sys.Call{Op: sys.Read, B: 4097}, api.ErrFault},
		{"read without end", sys.Call{Op: sys.Read, B: math.MaxInt}, api.ErrFault},
		{"read of a fd below 0", sys.Call{Op: sys.Read, A: -1, B: 1}, api.OK},
		{"truncate to nothing", sys.Call{Op: sys.Truncate}, api.OK},
		{"truncate below 0", sys.Call{Op: sys.Truncate, B: -1}, api.ErrInval},
		{"truncate without end", sys.Call{Op: sys.Truncate, B: math.MaxInt}, api.OK},
		{"truncate of a fd below 0", sys.Call{Op: sys.Truncate, A: -1}, api.OK},
		{"seek below 0", sys.Call{Op: sys.Seek, A: -1, B: -1}, api.OK},
		{"seek of 3", sys.Call{Op: sys.Seek, B: 3}, api.OK},
		{"dup2 below 0", sys.Call{Op: sys.Dup2, A: -1, B: -1}, api.OK},
		{"write of nothing", sys.Call{Op: sys.Write, A: -1, B: -1}, api.OK},
		{"write of most", sys.Call{Op: sys.Write, Data: make([]byte, 4096)}, api.OK},
		{"write of more", sys.Call{Op: sys.Write, Data: make([]byte, 4097)}, api.ErrFault},
		{"write with a long S", sys.Call{Op: sys.Write, S: long(4097), T: long(4097)}, api.OK},
		{"read with long Data", sys.Call{Op: sys.Read, Data: make([]byte, 4097), S: long(4097)}, api.OK},
		{"open of a long path", sys.Call{Op: sys.Open, A: 1, S: long(4096)}, api.OK},
		{"open of a longer path", sys.Call{Op: sys.Open, A: 1, S: long(4097)}, api.ErrFault},
		{"open of a longer path, with no flags", sys.Call{Op: sys.Open, S: long(4097)}, api.ErrInval},
		{"open with a long T, and B below 0", sys.Call{Op: sys.Open, A: 1, B: -1, T: long(4097), Data: make([]byte, 4097)}, api.OK},
		{"link of long paths", sys.Call{Op: sys.Link, S: long(4096), T: long(4096)}, api.OK},
		{"link of a longer path", sys.Call{Op: sys.Link, S: long(4097)}, api.ErrFault},
		{"link to a longer path", sys.Call{Op: sys.Link, T: long(4097)}, api.ErrFault},
		{"rename to a longer path", sys.Call{Op: sys.Rename, T: long(4097)}, api.ErrFault},
		{"stat of a longer path", sys.Call{Op: sys.Stat, S: long(4097)}, api.ErrFault},
		{"mkdir with a long T", sys.Call{Op: sys.Mkdir, T: long(4097)}, api.OK},
		{"fork with everything", sys.Call{Op: sys.Fork, A: -1, B: -1, S: long(4097), T: long(4097), Data: make([]byte, 4097)}, api.OK},
	} {
		if e := x.call.Check(); e != x.want {
			t.Errorf("P23.1: Check of %s = %v, want %v", x.what, e, x.want)
		}
	}
	for _, op := range others {
		if e := (sys.Call{Op: op, S: long(5000)}).Check(); e != api.ErrInval {
			t.Errorf("P23.1: Check of the Op %d = %v", op, e)
		}
	}
	for _, x := range table {
		e := (sys.Call{Op: x.op, S: long(4097), T: long(4097), Data: make([]byte, 4097), A: 1}).Check()
		if want := strings.ContainsAny(x.has, "SD"); want != (e == api.ErrFault) {
			t.Errorf("P23.1: Check of a long %s = %v", x.name, e)
		}
	}
}

// P23.1: the flags of open, all of them.
func TestCheckFlags(t *testing.T) {
	may := map[int]int{}
	for _, how := range []int{1, 2, 3, 4, 5, 6, 7} { // read, write, append
		for _, made := range []int{0, 8, 8 + 16} { // create, excl
			may[how+made]++
			if how > 1 {
				may[how+made+32]++ // trunc
			}
		}
	}
	if len(may) != 39 {
		t.Fatalf("P23.1: %d sums of flags: the test is in vain", len(may))
	}
	for a := -70; a < 200; a++ {
		want := api.ErrInval
		if may[a] > 0 {
			want = api.OK
		}
		if e := (sys.Call{Op: sys.Open, A: a, S: "a"}).Check(); e != want {
			t.Errorf("P23.1: Check of open with %d = %v, want %v", a, e, want)
		}
	}
	for _, a := range []int{math.MinInt, math.MaxInt, math.MinInt + 1, 1 << 40, 1<<40 + 1} {
		if e := (sys.Call{Op: sys.Open, A: a, S: "a"}).Check(); e != api.ErrInval {
			t.Errorf("P23.1: Check of open with %d = %v", a, e)
		}
	}
}
