package tree_test

import (
	"bytes"
	"math"
	"reflect"
	"slices"
	"strings"
	"testing"

	"drumlin/api"
	"drumlin/dirent"
	"drumlin/disk"
	"drumlin/geom"
	"drumlin/tree"
)

// ends are numbers at the edges of what there is, and far off.
var ends = []int{math.MinInt, -1 << 32, -1, 0, 1, 2, 20, 21, 200, 201, api.MaxSize - 1, api.MaxSize, api.MaxSize + 1, 1 << 32, math.MaxInt}

var small = geom.Geom{Segs: 20, Groups: 2, Inodes: 20}

var (
	long = strings.Repeat("x", 27)  // more than a name may have
	deep = strings.Repeat("a/", 33) // more parts than a path may have
)

// image is all that can be told of a tree.
type image struct {
	cost  int
	used  []int
	stats []tree.Stat
	lists [][]dirent.Entry
	bytes []string
	paths []string
}

func of(x *tree.Tree) image {
	m := image{cost: x.Vol().Cost(), used: x.Vol().Used()}
	for num := range x.Vol().Geom().Inodes + 1 {
		s, _ := x.Stat(num)
		list, _ := x.List(num)
		b, _ := x.Read(num, 0, api.MaxSize)
		m.stats, m.lists, m.bytes, m.paths = append(m.stats, s), append(m.lists, list), append(m.bytes, string(b)), append(m.paths, path(x, num))
	}
	return m
}

// errs: the error of a call that answers something besides, which must be zero beside it.
func errs(t *testing.T) func(n int, e api.Errno) api.Errno {
	return func(n int, e api.Errno) api.Errno {
		t.Helper()
		if e != api.OK && n != 0 {
			t.Errorf("P18.3: %d beside %v", n, e)
		}
		return e
	}
}

// The numbers of a small tree: directories /d, /d/e and /x, files /f (and /d/h, the same one) and /d/g; what is gone but held; what is free.
const (
	d, e, x, f, g  = 2, 3, 4, 5, 6
	lostDir, lost  = 7, 8
	free, tooGreat = 12, 21
)

// grown: that tree.
func grown(t *testing.T) (*disk.Disk, *tree.Tree) {
	t.Helper()
	dd, y := format(t, small, 5)
	for _, z := range []struct {
		path      string
		kind, num int
	}{{"/d", api.Dir, d}, {"/d/e", api.Dir, e}, {"/x", api.Dir, x}, {"/f", api.File, f}, {"/d/g", api.File, g}, {"/gone", api.Dir, lostDir}, {"/lost", api.File, lost}} {
		if num, e := y.Make(1, z.path, z.kind); num != z.num || e != api.OK {
			t.Fatalf("P18.1: Make(%q) = %d, %v", z.path, num, e)
		}
	}
	for what, e := range map[string]api.Errno{
		"Link": y.Link(1, "f", "d/h"), "Hold": y.Hold(lostDir), "Hold of a file": y.Hold(lost),
	} {
		if e != api.OK {
			t.Fatalf("P18.1: %s = %v", what, e)
		}
	}
	if e, f := y.Rmdir(1, "gone"), y.Unlink(1, "lost"); e != api.OK || f != api.OK {
		t.Fatalf("P18.1: Rmdir, Unlink = %v, %v", e, f)
	}
	y.Write(f, 0, []byte("hello"))
	return dd, y
}

// refused: a call, what it told, and what it should.
type refused struct {
	what    string
	e, want api.Errno
}

// P18.1: the document's example.
func TestExample(t *testing.T) {
	_, y := format(t, small, 5)
	if n, e := y.Make(1, "/a", api.Dir); n != 2 || e != api.OK {
		t.Errorf("P18.1: Make = %d, %v", n, e)
	}
	if n, e := y.Make(2, "f", api.File); n != 3 || e != api.OK {
		t.Errorf("P18.1: Make = %d, %v", n, e)
	}
	if e := y.Rename(1, "a/f", "g"); e != api.OK {
		t.Errorf("P18.1: Rename = %v", e)
	}
	if n, e := y.Walk(2, "../g"); n != 3 || e != api.OK {
		t.Errorf("P18.1: Walk = %d, %v", n, e)
	}
}

// P18.1, P18.3: of several errors the first one of the chapter's order is told, and nothing changes.
func TestOrder(t *testing.T) {
	_, y := grown(t)
	was := of(y)
	n := errs(t)
	for _, z := range slices.Concat(walks(y, n), makes(y, n), links(y), removes(y), renames(y), files(y, n)) {
		if z.e != z.want {
			t.Errorf("P18.1: %s = %v; want %v", z.what, z.e, z.want)
		}
	}
	if now := of(y); !reflect.DeepEqual(now, was) {
		t.Errorf("P18.3: something changed: %v; was %v", now, was)
	}
}

func walks(y *tree.Tree, n func(int, api.Errno) api.Errno) []refused {
	return []refused{
		{"Walk of a byte 0, from none", n(y.Walk(0, "a\x00"+long)), api.ErrInval},
		{"Walk of no path, from none", n(y.Walk(0, "")), api.ErrNoent},
		{"Walk of a long name, from none", n(y.Walk(0, long)), api.ErrNametoolong},
		{"Walk of many parts, from none", n(y.Walk(0, deep)), api.ErrNametoolong},
		{"Walk from 0", n(y.Walk(0, "/")), api.ErrInval},
		{"Walk from above", n(y.Walk(tooGreat, "/f")), api.ErrInval},
		{"Walk from what is free", n(y.Walk(free, "/f")), api.ErrNoent},
		{"Walk from a file", n(y.Walk(f, "a")), api.ErrNotdir},
		{"Walk from a file to it", n(y.Walk(f, ".")), api.ErrNotdir},
		{"Walk from a file up", n(y.Walk(f, "..")), api.ErrNotdir},
		{"Walk of a file, as a directory", n(y.Walk(1, "f/")), api.ErrNotdir},
		{"Walk of a file, as a directory", n(y.Walk(1, "f/.")), api.ErrNotdir},
		{"Walk up from a file", n(y.Walk(1, "f/..")), api.ErrNotdir},
		{"Walk through a file", n(y.Walk(1, "f/none")), api.ErrNotdir},
		{"Walk through none", n(y.Walk(1, "none/f/..")), api.ErrNoent},
		{"Walk of none", n(y.Walk(1, "d/none")), api.ErrNoent},
		{"Walk of none, from what has no links", n(y.Walk(lostDir, "none")), api.ErrNoent},
		{"Walk up from what has no links", n(y.Walk(lostDir, "..")), api.ErrNoent},
	}
}

func makes(y *tree.Tree, n func(int, api.Errno) api.Errno) []refused {
	return []refused{
		{"Make of no path, of no kind", n(y.Make(0, "", 0)), api.ErrNoent},
		{"Make of a long name, of no kind", n(y.Make(0, long, 3)), api.ErrNametoolong},
		{"Make of no kind, without a last part", n(y.Make(0, "/", 0)), api.ErrInval},
		{"Make of no kind", n(y.Make(1, "f", 3)), api.ErrInval},
		{"Make of no kind", n(y.Make(1, "new", math.MinInt)), api.ErrInval},
		{"Make of Root", n(y.Make(1, "/", api.Dir)), api.ErrExist},
		{"Make without a last part, from none", n(y.Make(0, "none/..", api.Dir)), api.ErrExist},
		{"Make of .", n(y.Make(f, ".", api.File)), api.ErrExist},
		{"Make from none", n(y.Make(0, "/f", api.File)), api.ErrInval},
		{"Make from what is free", n(y.Make(free, "/f", api.File)), api.ErrNoent},
		{"Make from a file", n(y.Make(f, "new", api.File)), api.ErrNotdir},
		{"Make below a file", n(y.Make(1, "f/new", api.File)), api.ErrNotdir},
		{"Make below none", n(y.Make(1, "none/new", api.File)), api.ErrNoent},
		{"Make of what is there", n(y.Make(1, "f", api.File)), api.ErrExist},
		{"Make of a directory that is there, as a file", n(y.Make(1, "d/", api.File)), api.ErrExist},
		{"Make of a file that is there, as a directory", n(y.Make(1, "f/", api.Dir)), api.ErrExist},
		{"Make of a file, as a directory", n(y.Make(1, "new/", api.File)), api.ErrNotdir},
		{"Make of a file, as a directory", n(y.Make(1, "d/new/.", api.File)), api.ErrNotdir},
		{"Make of a file, as a directory, where there are no links", n(y.Make(lostDir, "new/", api.File)), api.ErrNotdir},
		{"Make where there are no links", n(y.Make(lostDir, "new", api.File)), api.ErrNoent},
		{"Make of a directory where there are no links", n(y.Make(lostDir, "new/", api.Dir)), api.ErrNoent},
	}
}

func links(y *tree.Tree) []refused {
	return []refused{
		{"Link of no path", y.Link(0, "", "\x00"), api.ErrNoent},
		{"Link from none", y.Link(0, "f", ""), api.ErrInval},
		{"Link of a file, as a directory", y.Link(1, "f/", ""), api.ErrNotdir},
		{"Link of none", y.Link(1, "none", "\x00"), api.ErrNoent},
		{"Link of a directory", y.Link(1, "d", "\x00"), api.ErrIsdir},
		{"Link of Root", y.Link(1, "/", ""), api.ErrIsdir},
		{"Link to a byte 0", y.Link(1, "f", "\x00"+long), api.ErrInval},
		{"Link to no path", y.Link(1, "f", ""), api.ErrNoent},
		{"Link to a long name", y.Link(1, "f", "f/"+long), api.ErrNametoolong},
		{"Link to Root", y.Link(1, "f", "/"), api.ErrExist},
		{"Link without a last part", y.Link(1, "f", "f/.."), api.ErrExist},
		{"Link below a file", y.Link(1, "f", "f/new"), api.ErrNotdir},
		{"Link below none", y.Link(1, "f", "none/new/"), api.ErrNoent},
		{"Link to itself", y.Link(1, "f", "f"), api.ErrExist},
		{"Link to what is there", y.Link(1, "f", "d/g/"), api.ErrExist},
		{"Link to a directory", y.Link(1, "f", "x"), api.ErrExist},
		{"Link, as a directory", y.Link(1, "f", "new/"), api.ErrNotdir},
		{"Link from what has no links", y.Link(lostDir, "/f", "new"), api.ErrNoent},
		{"Link from what has no links, as a directory", y.Link(lostDir, "/f", "new/"), api.ErrNotdir},
		{"LinkNum of 0", y.LinkNum(0, 0, ""), api.ErrInval},
		{"LinkNum of what is free", y.LinkNum(free, 0, "\x00"), api.ErrNoent},
		{"LinkNum of a directory", y.LinkNum(d, 0, "\x00"), api.ErrIsdir},
		{"LinkNum to a byte 0", y.LinkNum(f, free, "\x00"), api.ErrInval},
		{"LinkNum to Root", y.LinkNum(f, 0, "/"), api.ErrExist},
		{"LinkNum from none", y.LinkNum(f, 0, "/new"), api.ErrInval},
		{"LinkNum from what is free", y.LinkNum(f, free, "/new"), api.ErrNoent},
		{"LinkNum from a file", y.LinkNum(f, g, "new"), api.ErrNotdir},
		{"LinkNum to what is there", y.LinkNum(lost, 1, "f/"), api.ErrExist},
		{"LinkNum where there are no links", y.LinkNum(lost, lostDir, "new"), api.ErrNoent},
	}
}

func removes(y *tree.Tree) []refused {
	var list []refused
	for what, call := range map[string]func(from int, path string) api.Errno{"Unlink": y.Unlink, "Rmdir": y.Rmdir} {
		list = append(list,
			refused{what + " of a byte 0", call(0, "\x00"), api.ErrInval},
			refused{what + " of no path", call(0, ""), api.ErrNoent},
			refused{what + " of a long name", call(0, long), api.ErrNametoolong},
			refused{what + " of Root", call(0, "/"), api.ErrBusy},
			refused{what + " of .", call(free, "."), api.ErrBusy},
			refused{what + " of ..", call(d, "e/.."), api.ErrBusy},
			refused{what + " from none", call(0, "/f"), api.ErrInval},
			refused{what + " from what is free", call(free, "/f"), api.ErrNoent},
			refused{what + " from a file", call(f, "f"), api.ErrNotdir},
			refused{what + " below a file", call(1, "f/none"), api.ErrNotdir},
			refused{what + " below none", call(1, "none/none"), api.ErrNoent},
			refused{what + " of none", call(1, "none/"), api.ErrNoent},
			refused{what + " of none, where there are no links", call(lostDir, "none"), api.ErrNoent},
		)
	}
	return append(list, []refused{
		{"Unlink of a directory", y.Unlink(1, "x"), api.ErrIsdir},
		{"Unlink of a directory, as one", y.Unlink(1, "d/"), api.ErrIsdir},
		{"Unlink of a file, as a directory", y.Unlink(1, "d/h/"), api.ErrNotdir},
		{"Rmdir of a file", y.Rmdir(1, "f"), api.ErrNotdir},
		{"Rmdir of a file, as a directory", y.Rmdir(1, "f/"), api.ErrNotdir},
		{"Rmdir of what isn't empty", y.Rmdir(1, "d"), api.ErrNotempty},
		{"Rmdir of what isn't empty", y.Rmdir(e, "/d/."), api.ErrNotempty},
	}...)
}

func renames(y *tree.Tree) []refused {
	return []refused{
		{"Rename of no path, to a byte 0", y.Rename(0, "", "\x00"), api.ErrNoent},
		{"Rename of a long name", y.Rename(0, long, ""), api.ErrNametoolong},
		{"Rename of Root, from none", y.Rename(0, "/", ""), api.ErrBusy},
		{"Rename of ..", y.Rename(d, "..", "x"), api.ErrBusy},
		{"Rename from none", y.Rename(0, "f", ""), api.ErrInval},
		{"Rename from what is free", y.Rename(free, "/f", "\x00"), api.ErrNoent},
		{"Rename from a file", y.Rename(f, "f", ""), api.ErrNotdir},
		{"Rename below a file", y.Rename(1, "f/a", ""), api.ErrNotdir},
		{"Rename of none", y.Rename(1, "none", "\x00"), api.ErrNoent},
		{"Rename of a file, as a directory", y.Rename(1, "f/", "\x00"), api.ErrNotdir},
		{"Rename to a byte 0", y.Rename(1, "f", "\x00"), api.ErrInval},
		{"Rename to no path", y.Rename(1, "d", ""), api.ErrNoent},
		{"Rename to many parts", y.Rename(1, "d", deep), api.ErrNametoolong},
		{"Rename to Root", y.Rename(1, "d", "/"), api.ErrBusy},
		{"Rename to ..", y.Rename(1, "d", "none/.."), api.ErrBusy},
		{"Rename below a file", y.Rename(1, "d", "f/a"), api.ErrNotdir},
		{"Rename below none", y.Rename(1, "d", "none/a"), api.ErrNoent},
		{"Rename into itself", y.Rename(1, "d", "d/new"), api.ErrInval},
		{"Rename into itself, to what is there", y.Rename(1, "d", "d/g"), api.ErrInval},
		{"Rename below itself", y.Rename(1, "d", "d/e/new"), api.ErrInval},
		{"Rename below itself, by way of ..", y.Rename(e, "../../d", "new"), api.ErrInval},
		{"Rename to where there are no links", y.Rename(lostDir, "/d", "new"), api.ErrNoent},
		{"Rename of a file to where there are no links, as a directory", y.Rename(lostDir, "/f", "new/"), api.ErrNoent},
		{"Rename of a file, to a directory", y.Rename(1, "f", "new/"), api.ErrNotdir},
		{"Rename of a file, to itself, as a directory", y.Rename(1, "f", "f/"), api.ErrNotdir},
		{"Rename of a file, to a directory", y.Rename(1, "f", "x/"), api.ErrNotdir},
		{"Rename to itself", y.Rename(1, "f", "f"), api.OK},
		{"Rename to another name of the same", y.Rename(1, "f", "d/h"), api.OK},
		{"Rename of a directory to itself", y.Rename(1, "d", "/d/"), api.OK},
		{"Rename of a directory to itself", y.Rename(d, "../d/e/", "e/."), api.OK},
		{"Rename of a directory in place of a file", y.Rename(1, "x", "f"), api.ErrNotdir},
		{"Rename of a directory in place of a file", y.Rename(1, "d", "f/"), api.ErrNotdir},
		{"Rename of a file in place of a directory", y.Rename(1, "f", "x"), api.ErrIsdir},
		{"Rename of a file in place of a directory that isn't empty", y.Rename(1, "f", "d"), api.ErrIsdir},
		{"Rename in place of what isn't empty", y.Rename(1, "x", "d"), api.ErrNotempty},
		{"Rename in place of what it is in", y.Rename(1, "d/e", "d"), api.ErrNotempty},
	}
}

func files(y *tree.Tree, n func(int, api.Errno) api.Errno) []refused {
	b := func(b []byte, e api.Errno) api.Errno { return n(len(b), e) }
	s := func(s tree.Stat, e api.Errno) api.Errno { return n(s.Num+s.Kind+s.Size+s.Links+int(s.Time), e) }
	l := func(l []dirent.Entry, e api.Errno) api.Errno { return n(len(l), e) }
	p := func(p string, e api.Errno) api.Errno { return n(len(p), e) }
	var list []refused
	for num, want := range map[int]api.Errno{0: api.ErrInval, -1: api.ErrInval, tooGreat: api.ErrInval, math.MaxInt: api.ErrInval, math.MinInt: api.ErrInval, free: api.ErrNoent, 20: api.ErrNoent} {
		list = append(list,
			refused{"Read of none", b(y.Read(num, -1, -1)), want},
			refused{"Write of none", n(y.Write(num, -1, []byte("x"))), want},
			refused{"Write of none, nothing", n(y.Write(num, 0, nil)), want},
			refused{"Truncate of none", y.Truncate(num, -1), want},
			refused{"Stat of none", s(y.Stat(num)), want},
			refused{"List of none", l(y.List(num)), want},
			refused{"Path of none", p(y.Path(num)), want},
			refused{"Hold of none", y.Hold(num), want},
			refused{"Drop of none", y.Drop(num), want},
		)
	}
	for _, num := range []int{1, d, lostDir} {
		for _, at := range ends {
			list = append(list,
				refused{"Read of a directory", b(y.Read(num, at, at)), api.ErrIsdir},
				refused{"Write of a directory", n(y.Write(num, at, []byte("x"))), api.ErrIsdir},
				refused{"Truncate of a directory", y.Truncate(num, at), api.ErrIsdir},
			)
		}
	}
	return append(list, []refused{
		{"Write of nothing, below 0", n(y.Write(f, -1, nil)), api.ErrInval},
		{"Write below 0", n(y.Write(f, math.MinInt, []byte("x"))), api.ErrInval},
		{"Write at the end of all", n(y.Write(f, api.MaxSize, []byte("x"))), api.ErrFbig},
		{"Write beyond", n(y.Write(f, math.MaxInt, []byte("xy"))), api.ErrFbig},
		{"Write of nothing, beyond", n(y.Write(f, math.MaxInt, nil)), api.OK},
		{"Write of nothing, at the end of all", n(y.Write(f, api.MaxSize, nil)), api.OK},
		{"Write of nothing", n(y.Write(f, 3, nil)), api.OK},
		{"Truncate below 0", y.Truncate(f, -1), api.ErrInval},
		{"Truncate beyond", y.Truncate(f, api.MaxSize+1), api.ErrFbig},
		{"Truncate far beyond", y.Truncate(f, math.MaxInt), api.ErrFbig},
		{"Read below 0", b(y.Read(f, -1, 5)), api.ErrInval},
		{"Read of a size below 0", b(y.Read(f, 0, math.MinInt)), api.ErrInval},
		{"List of a file", l(y.List(f)), api.ErrNotdir},
		{"Path of a file", p(y.Path(f)), api.ErrNotdir},
		{"Path of a file without links", p(y.Path(lost)), api.ErrNotdir},
		{"Path of a directory without links", p(y.Path(lostDir)), api.ErrNoent},
		{"Drop of what isn't held", y.Drop(1), api.ErrInval},
		{"Drop of a file that isn't held", y.Drop(f), api.ErrInval},
	}...)
}

// P18.1: paths that name something.
func TestWalk(t *testing.T) {
	_, y := grown(t)
	for _, z := range []struct {
		from int
		path string
		want int
	}{
		{1, "/", 1}, {d, "/", 1}, {f, "/", 1}, {1, ".", 1}, {1, "..", 1}, {1, "../../d", d}, {d, ".", d}, {d, "..", 1}, {e, "..", d}, {e, "../..", 1},
		{1, "d", d}, {1, "/d/", d}, {1, "//d//./", d}, {1, "f", f}, {e, "../h", f}, {e, "../../d/e/../g", g}, {f, "/d/g", g}, {lostDir, ".", lostDir}, {lostDir, "/f", f}, {lost, "/f", f},
	} {
		if n, e := y.Walk(z.from, z.path); n != z.want || e != api.OK {
			t.Errorf("P18.1: Walk(%d, %q) = %d, %v; want %d", z.from, z.path, n, e, z.want)
		}
	}
}

// P18.1: what is told of a number.
func TestStat(t *testing.T) {
	_, y := grown(t)
	for _, want := range []tree.Stat{
		{Num: 1, Kind: api.Dir, Size: 128, Links: 1, Time: 5},
		{Num: d, Kind: api.Dir, Size: 128, Links: 1, Time: 5},
		{Num: f, Kind: api.File, Size: 5, Links: 2, Time: 5},
		{Num: g, Kind: api.File, Size: 0, Links: 1, Time: 5},
		{Num: lostDir, Kind: api.Dir, Size: 0, Links: 0, Time: 5},
		{Num: lost, Kind: api.File, Size: 0, Links: 0, Time: 5},
	} {
		if s, e := y.Stat(want.Num); s != want || e != api.OK {
			t.Errorf("P18.1: Stat = %v, %v; want %v", s, e, want)
		}
	}
	if list, e := y.List(d); e != api.OK || !slices.Equal(list, []dirent.Entry{{Num: 1, Name: ".."}, {Num: e2, Name: "e"}, {Num: g, Name: "g"}, {Num: f, Name: "h"}}) {
		t.Errorf("P18.1: List = %v, %v", list, e)
	}
	if list, e := y.List(lostDir); list != nil || e != api.OK {
		t.Errorf("P18.1: List of a directory that is gone = %v, %v", list, e)
	}
}

const e2 = e // where e is an error

// P18.2: what has no links is there till it isn't held any more, as often as it was; then its number is given anew.
func TestHolds(t *testing.T) {
	_, y := grown(t)
	y.Write(lost, 0, []byte("still here"))
	for range 2 {
		y.Hold(lost)
	}
	for i := range 3 {
		if b, e := y.Read(lost, 0, 99); string(b) != "still here" || e != api.OK {
			t.Errorf("P18.2: held %d times: Read = %q, %v", 3-i, b, e)
		}
		if e := y.Drop(lost); e != api.OK {
			t.Errorf("P18.2: Drop = %v", e)
		}
	}
	if _, e := y.Stat(lost); e != api.ErrNoent || y.Drop(lost) != api.ErrNoent || y.Hold(lost) != api.ErrNoent {
		t.Errorf("P18.2: behind the last Drop: %v", e)
	}
	if n, e := y.Make(1, "new", api.Dir); n != lost || e != api.OK {
		t.Errorf("P18.2: Make = %d, %v", n, e)
	}
	if e := y.Drop(lost); e != api.ErrInval {
		t.Errorf("P18.2: Drop of the new one = %v", e)
	}
	cost := y.Vol().Cost()
	if e := y.Drop(lostDir); e != api.OK || y.Vol().Cost() != cost-1 {
		t.Errorf("P18.2: Drop of the directory = %v, Cost %d, was %d", e, y.Vol().Cost(), cost)
	}
	// What has links stays, held or not; what is held and has a name again, too.
	for _, num := range []int{1, d, f} {
		y.Hold(num)
		y.Hold(num)
		y.Drop(num)
		y.Drop(num)
		if _, e := y.Stat(num); e != api.OK || y.Drop(num) != api.ErrInval {
			t.Errorf("P18.2: Stat(%d) = %v", num, e)
		}
	}
	y.Hold(g)
	y.Unlink(d, "g")
	if e := y.LinkNum(g, e, "again"); e != api.OK {
		t.Errorf("P18.2: LinkNum = %v", e)
	}
	y.Drop(g)
	if n, e := y.Walk(e, "again"); n != g || e != api.OK {
		t.Errorf("P18.2: Walk = %d, %v", n, e)
	}
	if d := whole(y); d != nil {
		t.Errorf("P18.2: %v", d)
	}
}

// P18.2: a directory that was removed, or replaced, has no bytes, also while it is held.
func TestGoneDirectories(t *testing.T) {
	_, y := grown(t)
	y.Hold(e)
	y.Hold(x)
	y.Vol().SetTime(9)
	if e := y.Rmdir(d, "e"); e != api.OK {
		t.Errorf("P18.1: Rmdir = %v", e)
	}
	y.Make(1, "z", api.Dir)
	if e := y.Rename(1, "z", "x"); e != api.OK {
		t.Errorf("P18.1: Rename = %v", e)
	}
	for _, num := range []int{e, x} {
		s, e := y.Stat(num)
		if indexes, _ := y.Vol().Indexes(num); e != api.OK || s.Size != 0 || s.Links != 0 || s.Time != 5 || len(indexes) != 0 {
			t.Errorf("P18.2: Stat = %v, %v, blocks %v", s, e, indexes)
		}
		if e := y.Drop(num); e != api.OK {
			t.Errorf("P18.2: Drop = %v", e)
		}
	}
	if used := y.Vol().Used(); slices.Contains(used, e) || slices.Contains(used, x) {
		t.Errorf("P18.2: Used = %v", used)
	}
}

// P18.1: what a call marks with the time, and what it doesn't.
func TestMarks(t *testing.T) {
	for _, z := range []struct {
		what   string
		do     func(y *tree.Tree) api.Errno
		marked []int
	}{
		{"Make of a file", func(y *tree.Tree) api.Errno { _, e := y.Make(d, "new", api.File); return e }, []int{d, 9}},
		{"Make of a directory", func(y *tree.Tree) api.Errno { _, e := y.Make(e, "new", api.Dir); return e }, []int{e, 9}},
		{"Link", func(y *tree.Tree) api.Errno { return y.Link(1, "f", "x/f") }, []int{x}},
		{"LinkNum", func(y *tree.Tree) api.Errno { return y.LinkNum(lost, 1, "x/f") }, []int{x}},
		{"Unlink", func(y *tree.Tree) api.Errno { return y.Unlink(d, "h") }, []int{d}},
		{"Rmdir", func(y *tree.Tree) api.Errno { return y.Rmdir(d, "e") }, []int{d}},
		{"Rename of a file", func(y *tree.Tree) api.Errno { return y.Rename(1, "f", "d/new") }, []int{1, d}},
		{"Rename of a directory", func(y *tree.Tree) api.Errno { return y.Rename(1, "x", "d/new") }, []int{1, d, x}},
		{"Rename of a directory to another name", func(y *tree.Tree) api.Errno { return y.Rename(1, "x", "new") }, []int{1}},
		{"Rename in place of a file", func(y *tree.Tree) api.Errno { return y.Rename(d, "g", "/f") }, []int{1, d}},
		{"Rename in place of a directory", func(y *tree.Tree) api.Errno { return y.Rename(d, "e", "/x") }, []int{1, d, e}},
		{"Rename to the same", func(y *tree.Tree) api.Errno { return y.Rename(d, "h", "/f") }, nil},
		{"Write", func(y *tree.Tree) api.Errno { _, e := y.Write(f, 0, []byte("j")); return e }, []int{f}},
		{"Write of nothing", func(y *tree.Tree) api.Errno { _, e := y.Write(f, 0, nil); return e }, nil},
		{"Truncate", func(y *tree.Tree) api.Errno { return y.Truncate(f, 3) }, []int{f}},
		{"Truncate to the same", func(y *tree.Tree) api.Errno { return y.Truncate(f, 5) }, []int{f}},
		{"Truncate of what has no links", func(y *tree.Tree) api.Errno { return y.Truncate(lost, 0) }, []int{lost}},
		{"Read", func(y *tree.Tree) api.Errno { _, e := y.Read(f, 0, 9); return e }, nil},
		{"Hold", func(y *tree.Tree) api.Errno { return y.Hold(f) }, nil},
		{"Drop", func(y *tree.Tree) api.Errno { return y.Drop(lost) }, nil},
	} {
		_, y := grown(t)
		y.Vol().SetTime(9)
		if e := z.do(y); e != api.OK {
			t.Errorf("P18.1: %s = %v", z.what, e)
		}
		for _, num := range y.Vol().Used() {
			if s, _ := y.Stat(num); (s.Time == 9) != slices.Contains(z.marked, num) || s.Time != 9 && s.Time != 5 {
				t.Errorf("P18.1: %s: the time of %d is %d", z.what, num, s.Time)
			}
		}
	}
}

// P18.1: a rename puts the new entry ahead of taking the old one away, so that it can't have its place; ".." goes with a directory.
func TestRename(t *testing.T) {
	_, y := grown(t) // d is full: .., e, g, h
	if e := y.Rename(d, "g", "i"); e != api.OK {
		t.Errorf("P18.1: Rename = %v", e)
	}
	if b, _ := y.Vol().Read(d, 64, 3); !bytes.Equal(b, []byte{0, 0, 0}) {
		t.Errorf("P18.1: the old place has %q", b)
	}
	if b, _ := y.Vol().Read(d, 128, 4); string(b) != "\x06\x00\x01i" {
		t.Errorf("P18.1: the first place of another block has %q", b)
	}
	if e := y.Rename(d, "i", "g"); e != api.OK {
		t.Errorf("P18.1: Rename = %v", e)
	}
	if s, _ := y.Stat(d); s.Size != 128 {
		t.Errorf("P18.1: %d bytes", s.Size)
	}
	if e := y.Rename(e2, "../../x", "y"); e != api.OK {
		t.Errorf("P18.1: Rename = %v", e)
	}
	if n, _ := y.Walk(x, ".."); n != e || path(y, x) != "/d/e/y" {
		t.Errorf("P18.1: .. is %d, the path %q", n, path(y, x))
	}
	if e := y.Rename(1, "d/e/y", "d/e/z"); e != api.OK || path(y, x) != "/d/e/z" {
		t.Errorf("P18.1: Rename = %v, the path %q", e, path(y, x))
	}
	if e := y.Rename(1, "d/e/z/", "x/"); e != api.OK || path(y, x) != "/x" {
		t.Errorf("P18.1: Rename = %v, the path %q", e, path(y, x))
	}
	// In place of another one the entry stays where it is, and what it named has a name less.
	if e := y.Rename(1, "f", "d/g"); e != api.OK {
		t.Errorf("P18.1: Rename = %v", e)
	}
	if list, _ := y.List(d); !slices.Equal(list, []dirent.Entry{{Num: 1, Name: ".."}, {Num: e, Name: "e"}, {Num: f, Name: "g"}, {Num: f, Name: "h"}}) {
		t.Errorf("P18.1: List = %v", list)
	}
	if _, e := y.Stat(g); e != api.ErrNoent {
		t.Errorf("P18.2: Stat of what was replaced = %v", e)
	}
	if s, _ := y.Stat(f); s.Links != 2 {
		t.Errorf("P18.2: links %d", s.Links)
	}
}

// P18.1: a directory's path may be longer than one that can be walked, but has at most 32 parts.
func TestPath(t *testing.T) {
	g := geom.Geom{Segs: 20, Groups: 4, Inodes: 50}
	_, y := format(t, g, 1)
	if p, e := y.Path(1); p != "/" || e != api.OK {
		t.Errorf("P18.1: Path of Root = %q, %v", p, e)
	}
	up, want := 1, ""
	for i := 1; i <= 40; i++ {
		part := strings.Repeat(string(rune('a'+i%26)), 26)
		num, e := y.Make(up, part, api.Dir)
		if e != api.OK {
			t.Fatalf("P18.1: Make = %v", e)
		}
		want += "/" + part
		p, e := y.Path(num)
		if i <= 32 && (p != want || e != api.OK) || i > 32 && (p != "" || e != api.ErrNoent) {
			t.Errorf("P18.1: Path of %d parts = %q, %v", i, p, e)
		}
		up = num
	}
	if n, e := y.Walk(up, strings.Repeat("../", 32)); e != api.OK || path(y, n) != want[:27*8] {
		t.Errorf("P18.1: Walk = %d, %v", n, e)
	}
	// Moves are refused however deep it is.
	if e := y.Rename(up, "/"+want[1:27], "in"); e != api.ErrInval {
		t.Errorf("P18.1: Rename = %v", e)
	}
	if num, e := y.Make(1, "a", api.Dir); e != api.OK || y.Rename(up, "/a", "in") != api.OK || y.Rename(num, ".", "x") != api.ErrBusy {
		t.Errorf("P18.1: Make = %d, %v", num, e)
	}
}

// P18.1, P18.2: a file has at most 100 links; that is told ahead of room that there isn't.
func TestLinks(t *testing.T) {
	_, y := grown(t)
	name := func(i int) string { return "/x/" + string(rune('a'+i%26)) + string(rune('a'+i/26)) }
	for i := range 98 {
		if e := y.Link(1, "f", name(i)); e != api.OK {
			t.Fatalf("P18.1: Link %d = %v", i, e)
		}
	}
	for e := api.OK; e == api.OK; { // till there is no room
		_, e = y.Write(g, y.Vol().Cost()*128, []byte("x"))
	}
	was := of(y)
	if e := y.Link(1, "f", "new"); e != api.ErrMlink {
		t.Errorf("P18.1: Link of 100 = %v", e)
	}
	if e := y.Link(1, "f", "d/new"); e != api.ErrMlink || y.LinkNum(f, d, "new") != api.ErrMlink {
		t.Errorf("P18.1: Link of 100, without room = %v", e)
	}
	if e := y.Link(1, "f", "d/g"); e != api.ErrExist {
		t.Errorf("P18.1: Link of 100, to what is there = %v", e)
	}
	if e := y.Link(1, "d/g", "d/new"); e != api.ErrNospc {
		t.Errorf("P18.1: Link without room = %v", e)
	}
	if now := of(y); !reflect.DeepEqual(now, was) {
		t.Errorf("P18.3: something changed")
	}
	y.Unlink(1, "f")
	if s, _ := y.Stat(f); s.Links != 99 || y.Link(1, name(3), "f") != api.OK || y.Unlink(1, name(97)) != api.OK {
		t.Errorf("P18.2: links %d", s.Links)
	}
	if d := whole(y); d != nil {
		t.Errorf("P18.2: %v", d)
	}
}

// full: a tree with as much room left as that: in a directory /d that is full, and the file /d/g, which has what there is room for; ahead of that something may be done.
func full(t *testing.T, left int, first ...func(y *tree.Tree)) *tree.Tree {
	t.Helper()
	_, y := grown(t)
	for _, do := range first {
		do(y)
	}
	blocks, room := 0, y.Vol().Geom().Room()
	for ; y.Vol().Cost() < room-left; blocks++ {
		if n, e := y.Write(g, blocks*128, []byte("x")); n != 1 || e != api.OK {
			t.Fatalf("P18.4: Write with a cost of %d = %d, %v", y.Vol().Cost(), n, e)
		}
	}
	for ; y.Vol().Cost() > room-left; blocks-- { // a pointer block came besides
		y.Truncate(g, 128*(blocks-1))
	}
	for y.Vol().Cost() < room-left {
		y.Make(1, "x/fill"+string(rune('a'+len(y.Vol().Used()))), api.File)
	}
	if y.Vol().Cost() != room-left {
		t.Fatalf("P18.4: Cost %d of %d", y.Vol().Cost(), room)
	}
	return y
}

// P18.4: nothing is above the room: what would bring the cost there is refused, and what just fits isn't; what makes things less never is.
func TestRoom(t *testing.T) {
	for _, z := range []struct {
		what string
		cost int
		do   func(y *tree.Tree) api.Errno
	}{
		{"Make of a file", 1, func(y *tree.Tree) api.Errno { _, e := y.Make(1, "x/new", api.File); return e }},
		{"Make of a directory", 2, func(y *tree.Tree) api.Errno { _, e := y.Make(1, "x/new", api.Dir); return e }},
		{"Make of a file where it grows", 2, func(y *tree.Tree) api.Errno { _, e := y.Make(d, "new", api.File); return e }},
		{"Make of a directory where it grows", 3, func(y *tree.Tree) api.Errno { _, e := y.Make(d, "new", api.Dir); return e }},
		{"Link", 0, func(y *tree.Tree) api.Errno { return y.Link(1, "f", "x/new") }},
		{"Link where it grows", 1, func(y *tree.Tree) api.Errno { return y.Link(1, "f", "d/new") }},
		{"LinkNum where it grows", 1, func(y *tree.Tree) api.Errno { return y.LinkNum(lost, d, "new") }},
		{"Rename", 0, func(y *tree.Tree) api.Errno { return y.Rename(1, "f", "x/new") }},
		{"Rename where it grows", 1, func(y *tree.Tree) api.Errno { return y.Rename(1, "f", "d/new") }},
		{"Rename where it grows ahead of getting less", 1, func(y *tree.Tree) api.Errno { return y.Rename(d, "e", "new") }},
		{"Rename in place of another one", 0, func(y *tree.Tree) api.Errno { return y.Rename(1, "f", "d/g") }},
		{"Rename in place of a directory", 0, func(y *tree.Tree) api.Errno { return y.Rename(1, "x", "d/e") }},
		{"Write of a block that is there", 0, func(y *tree.Tree) api.Errno { _, e := y.Write(f, 5, []byte("x")); return e }},
		{"Write of a block more", 1, func(y *tree.Tree) api.Errno { _, e := y.Write(f, 128, []byte("x")); return e }},
		{"Write of a block on the single block", 2, func(y *tree.Tree) api.Errno { _, e := y.Write(f, 8*128, []byte("x")); return e }},
		{"Write of a block on a leaf", 3, func(y *tree.Tree) api.Errno { _, e := y.Write(f, 40*128, []byte("x")); return e }},
		{"Truncate to more", 0, func(y *tree.Tree) api.Errno { return y.Truncate(f, api.MaxSize) }},
		{"Truncate", 0, func(y *tree.Tree) api.Errno { return y.Truncate(f, 2) }},
		{"Unlink", 0, func(y *tree.Tree) api.Errno { return y.Unlink(1, "f") }},
		{"Rmdir", 0, func(y *tree.Tree) api.Errno { return y.Rmdir(d, "e") }},
	} {
		for left := range 4 {
			y := full(t, left)
			was := of(y)
			e := z.do(y)
			if left >= z.cost && e != api.OK || left < z.cost && (e != api.ErrNospc || !reflect.DeepEqual(of(y), was)) || y.Vol().Cost() > y.Vol().Geom().Room() {
				t.Errorf("P18.4: %s with room for %d = %v, Cost %d; was %d", z.what, left, e, y.Vol().Cost(), was.cost)
			}
			if e := y.Vol().Flush(); e != api.OK {
				t.Errorf("P18.4: %s: Flush = %v", z.what, e)
			}
		}
	}
}

// P18.1, P18.4: a write is cut short where there is no room for a block, also if blocks behind it are there, and at the greatest size.
func TestWrite(t *testing.T) {
	b := bytes.Repeat([]byte("drumlin."), 400)
	for left, blocks := range []int{1, 2, 3, 4, 6, 7, 8, 8, 9, 10} { // of /f the blocks 0 and 5 are there; block 8 needs the single block, too
		y := full(t, left, func(y *tree.Tree) { y.Write(f, 128*5, []byte("there")) })
		n, e := y.Write(f, 7, b)
		want := 128*blocks - 7
		if n != want || e != api.OK {
			t.Errorf("P18.1: Write with room for %d = %d, %v; want %d", left, n, e, want)
		}
		old := make([]byte, 128*5+5)
		copy(old, "hello")
		copy(old[128*5:], "there")
		old = append(old, make([]byte, max(0, 7+want-len(old)))...)
		copy(old[7:], b[:want])
		if got, e := y.Read(f, 0, api.MaxSize); !bytes.Equal(got, old) || e != api.OK {
			t.Errorf("P18.1: Write with room for %d: Read = %d bytes, %v; want %d", left, len(got), e, len(old))
		}
		if e := y.Vol().Flush(); e != api.OK {
			t.Errorf("P18.4: Flush = %v", e)
		}
	}
	for _, z := range [][3]int{{api.MaxSize - 1, 1, 1}, {api.MaxSize - 1, 5, 1}, {api.MaxSize - 300, 400, 300}, {api.MaxSize - 128, 128, 128}} {
		_, y := grown(t)
		if n, e := y.Write(f, z[0], b[:z[1]]); n != z[2] || e != api.OK {
			t.Errorf("P18.1: Write(%d) of %d = %d, %v; want %d", z[0], z[1], n, e, z[2])
		}
		if got, e := y.Read(f, z[0], 999); !bytes.Equal(got, b[:z[2]]) || e != api.OK {
			t.Errorf("P18.1: Read(%d) = %d bytes, %v", z[0], len(got), e)
		}
	}
	// Both ends of a write, and all between.
	_, y := format(t, geom.Geom{Segs: 20, Groups: 32, Inodes: 20}, 1)
	num, _ := y.Make(1, "f", api.File)
	all := bytes.Repeat([]byte("all of it. "), api.MaxSize/10)
	if n, e := y.Write(num, 5, all); n != api.MaxSize-5 || e != api.OK {
		t.Errorf("P18.1: Write of all = %d, %v", n, e)
	}
	if got, e := y.Read(num, 0, len(all)); !bytes.Equal(got[5:], all[:api.MaxSize-5]) || e != api.OK {
		t.Errorf("P18.1: Read of all = %d bytes, %v", len(got), e)
	}
}

// P18.1: as many files as there are numbers; that is told behind what else is wrong with the path.
func TestNumbersEnd(t *testing.T) {
	_, y := grown(t)
	for i := len(y.Vol().Used()); i < 20; i++ {
		if _, e := y.Make(1, "n"+string(rune('a'+i)), api.File); e != api.OK {
			t.Fatalf("P18.1: Make = %v", e)
		}
	}
	slots := func() (list []uint32) {
		for num := 1; num <= 20; num++ {
			s, _ := y.Vol().Slot(num)
			list = append(list, s.Version)
		}
		return
	}
	was, versions := of(y), slots()
	n := errs(t)
	for _, z := range []refused{
		{"Make", n(y.Make(1, "new", api.File)), api.ErrNospc},
		{"Make of a directory", n(y.Make(1, "new", api.Dir)), api.ErrNospc},
		{"Make of what is there", n(y.Make(1, "f", api.File)), api.ErrExist},
		{"Make where there are no links", n(y.Make(lostDir, "new", api.File)), api.ErrNoent},
		{"Make of no kind", n(y.Make(1, "new", 0)), api.ErrInval},
		{"Link", y.Link(1, "f", "f"), api.ErrExist},
	} {
		if z.e != z.want {
			t.Errorf("P18.1: %s = %v; want %v", z.what, z.e, z.want)
		}
	}
	if !reflect.DeepEqual(of(y), was) || !slices.Equal(slots(), versions) {
		t.Errorf("P18.3: something changed")
	}
	y.Unlink(1, "na")
	if e := y.Link(1, "f", "new"); e != api.OK {
		t.Errorf("P18.1: Link = %v", e)
	}
}

// P18.3: a directory that has all blocks that a file may have: no entry has room there any more.
func TestFullDirectory(t *testing.T) {
	g := geom.Geom{Segs: 20, Groups: 32, Inodes: 60}
	_, y := format(t, g, 1)
	y.Make(1, "a", api.File)
	y.Make(1, "d", api.Dir)
	y.Make(1, "x", api.Dir)
	v := y.Vol()
	list := []dirent.Entry{{Num: 1, Name: ".."}}
	for num := 0; len(list) < 4*api.MaxBlocks; {
		i := len(list)
		if i%100 == 1 {
			num, _ = v.New(api.File)
		}
		v.Link(num, 1)
		list = append(list, dirent.Entry{Num: num, Name: string([]byte{'0' + byte(i/1000), '0' + byte(i/100%10), '0' + byte(i/10%10), '0' + byte(i%10)})})
	}
	for i := range api.MaxBlocks {
		s, _ := dirent.Write([4]dirent.Entry(list[4*i : 4*i+4]))
		v.Write(3, 128*i, s[:])
	}
	was := of(y)
	n := errs(t)
	for _, z := range []refused{
		{"Make", n(y.Make(3, "new", api.File)), api.ErrFbig},
		{"Make of a directory", n(y.Make(3, "new", api.Dir)), api.ErrFbig},
		{"Link", y.Link(3, "/a", "new"), api.ErrFbig},
		{"Rename", y.Rename(3, "/a", "new"), api.ErrFbig},
		{"Rename there", y.Rename(3, "0001", "new"), api.ErrFbig},
		{"Rename of a directory", y.Rename(3, "/x", "new"), api.ErrFbig},
	} {
		if z.e != z.want {
			t.Errorf("P18.3: %s = %v; want %v", z.what, z.e, z.want)
		}
	}
	if !reflect.DeepEqual(of(y), was) {
		t.Errorf("P18.3: something changed")
	}
	for len(v.Used()) < g.Inodes {
		if _, e := v.New(api.File); e != api.OK {
			t.Fatalf("P18.1: New = %v", e)
		}
	}
	if n, e := y.Make(3, "new", api.File); n != 0 || e != api.ErrNospc {
		t.Errorf("P18.3: Make without a number = %d, %v", n, e)
	}
	if e := y.Rename(3, "/a", "0007"); e != api.OK {
		t.Errorf("P18.1: Rename = %v", e)
	}
	if e := y.Unlink(3, "2000"); e != api.OK || y.Rename(1, "x", "d/new") != api.OK {
		t.Errorf("P18.1: Unlink = %v", e)
	}
}
