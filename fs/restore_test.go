package fs_test

import (
	"bytes"
	"fmt"
	"math"
	"slices"
	"strings"
	"testing"

	"drumlin/api"
	"drumlin/fs"
	"drumlin/tree"
)

// P19.2: items one by one, in a tree in which there is something already.
func TestRestore(t *testing.T) {
	_, y := grown(t)
	items := []fs.Item{
		fileItem("/g", "abc"), linkItem("/a", "/g"), dirItem("/b"), linkItem("/b/l", "/a"), dirItem("/b/..."), fileItem("/b/.../f", ""),
		{Path: "/b/.../d", Kind: api.Dir, Data: []byte("a directory hasn't these")}, {Path: "/b/n", Kind: api.File, Data: []byte{}},
	}
	if e := fs.Restore(y, items...); e != api.OK {
		t.Fatalf("P19.2: Restore = %v", e)
	}
	dumped(t, y, "with others", fileItem("/a", "abc"), dirItem("/b"), dirItem("/b/..."), dirItem("/b/.../d"), fileItem("/b/.../f", ""), linkItem("/b/l", "/a"), fileItem("/b/n", ""),
		dirItem("/d"), dirItem("/d/e"), fileItem("/d/h", "hello"), linkItem("/f", "/d/h"), linkItem("/g", "/a"), dirItem("/x"))
	if s, e := y.Stat(8); e != api.OK || s != (tree.Stat{Num: 8, Kind: api.File, Size: 3, Links: 3, Time: 5}) {
		t.Errorf("P19.2: the first one that was made is %v, %v", s, e)
	}
	if list := fs.Check(y); len(list) > 0 {
		t.Errorf("P19.4: Check = %v", list)
	}
	if e := fs.Restore(y); e != api.OK {
		t.Errorf("P19.2: Restore of nothing = %v", e)
	}
}

// P19.2: a Path that isn't / and names with / between, a Kind that is neither, a Link and something else: ahead of all other errors.
func TestRestoreInval(t *testing.T) {
	name := strings.Repeat("n", 27)
	var list []fs.Item
	for _, path := range []string{"", "/", "//", "a", "a/b", "./a", "../a", "/a/", "//a", "/d//a", "/.", "/..", "/d/.", "/d/..", "/./a", "/../a", "/d/../a", "/\x00", "/d/a\x00b", "\x00", "/\x00/a", "/" + name, "/d/" + name, "/" + name + "/a", "d/a", " /a"} {
		for _, kind := range []int{api.File, api.Dir} {
			list = append(list, fs.Item{Path: path, Kind: kind})
		}
		list = append(list, linkItem(path, "/h"), linkItem(path, "/none"))
	}
	for _, path := range []string{"/a", "/d", "/none/a", "/h"} {
		for _, kind := range []int{api.Free, 3, -1, 257, math.MinInt, math.MaxInt} {
			list = append(list, fs.Item{Path: path, Kind: kind}, fs.Item{Path: path, Kind: kind, Link: "/h"}, fs.Item{Path: path, Kind: kind, Data: []byte("x")})
		}
		list = append(list,
			fs.Item{Path: path, Kind: api.Dir, Link: "/d"},
			fs.Item{Path: path, Kind: api.Dir, Link: "/none"},
			fs.Item{Path: path, Kind: api.File, Link: "/h", Data: []byte("x")},
			fs.Item{Path: path, Kind: api.File, Link: "/none", Data: []byte("x")},
		)
	}
	for _, x := range list {
		_, y := format(t, small)
		if e := fs.Restore(y, dirItem("/d"), fileItem("/h", "h"), x, dirItem("/later")); e != api.ErrInval {
			t.Errorf("P19.2: Restore of %+v = %v", x, e)
		}
		dumped(t, y, "what was done ahead stays", dirItem("/d"), fileItem("/h", "h"))
	}
}

// P19.2: all other errors: the first one, in their order; what was done ahead of it stays.
func TestRestoreErrors(t *testing.T) {
	for _, z := range []struct {
		what  string
		items []fs.Item
		want  api.Errno
		left  []fs.Item
	}{
		{"no directory", []fs.Item{dirItem("/a/b")}, api.ErrNoent, nil},
		{"a directory that is there, but no item", []fs.Item{dirItem("/d/b")}, api.ErrNoent, nil},
		{"a directory that comes behind", []fs.Item{fileItem("/a/b", ""), dirItem("/a")}, api.ErrNoent, nil},
		{"a directory that is a file", []fs.Item{fileItem("/a", ""), fileItem("/a/b", "")}, api.ErrNoent, []fs.Item{fileItem("/a", "")}},
		{"a directory that is a link", []fs.Item{fileItem("/a", ""), linkItem("/b", "/a"), fileItem("/b/c", "")}, api.ErrNoent, []fs.Item{fileItem("/a", ""), linkItem("/b", "/a")}},
		{"a directory of a directory", []fs.Item{dirItem("/a"), dirItem("/a/b/c")}, api.ErrNoent, []fs.Item{dirItem("/a")}},
		{"a link to nothing", []fs.Item{linkItem("/a", "/none")}, api.ErrNoent, nil},
		{"a link to no path", []fs.Item{fileItem("/b", ""), linkItem("/a", "b")}, api.ErrNoent, []fs.Item{fileItem("/b", "")}},
		{"a link to no name", []fs.Item{linkItem("/a", "/")}, api.ErrNoent, nil},
		{"a link to itself", []fs.Item{linkItem("/a", "/a")}, api.ErrNoent, nil},
		{"a link to what is there, but no item", []fs.Item{linkItem("/a", "/f")}, api.ErrNoent, nil},
		{"a link to a directory", []fs.Item{dirItem("/b"), linkItem("/a", "/b")}, api.ErrNoent, []fs.Item{dirItem("/b")}},
		{"a link to what comes behind", []fs.Item{linkItem("/a", "/b"), fileItem("/b", "")}, api.ErrNoent, nil},
		{"a link to nothing, where something is", []fs.Item{linkItem("/f", "/none")}, api.ErrNoent, nil},
		{"a link in no directory", []fs.Item{fileItem("/b", ""), linkItem("/a/c", "/b")}, api.ErrNoent, []fs.Item{fileItem("/b", "")}},
		{"two files", []fs.Item{fileItem("/a", "1"), fileItem("/a", "2")}, api.ErrExist, []fs.Item{fileItem("/a", "1")}},
		{"two directories", []fs.Item{dirItem("/a"), dirItem("/a")}, api.ErrExist, []fs.Item{dirItem("/a")}},
		{"two links", []fs.Item{fileItem("/a", "1"), linkItem("/b", "/a"), linkItem("/b", "/a")}, api.ErrExist, []fs.Item{fileItem("/a", "1"), linkItem("/b", "/a")}},
		{"a link to itself, which is there", []fs.Item{fileItem("/a", "1"), linkItem("/a", "/a")}, api.ErrExist, []fs.Item{fileItem("/a", "1")}},
		{"a file where something is", []fs.Item{fileItem("/d", "1")}, api.ErrExist, nil},
		{"a directory where something is", []fs.Item{dirItem("/d")}, api.ErrExist, nil},
		{"a link where something is", []fs.Item{fileItem("/a", "1"), linkItem("/f", "/a")}, api.ErrExist, []fs.Item{fileItem("/a", "1")}},
	} {
		_, y := grown(t)
		if e := fs.Restore(y, append(slices.Clone(z.items), dirItem("/later"))...); e != z.want {
			t.Errorf("P19.2: %s: Restore = %v; want %v", z.what, e, z.want)
		}
		base := []fs.Item{dirItem("/d"), dirItem("/d/e"), fileItem("/d/h", "hello"), linkItem("/f", "/d/h"), dirItem("/x")}
		dumped(t, y, z.what, append(slices.Clone(z.left), base...)...)
	}
}

// links: a file, and so many links to it.
func links(n int) []fs.Item {
	items := []fs.Item{fileItem("/f", "1")}
	for i := range n {
		items = append(items, linkItem(fmt.Sprintf("/l%03d", i), "/f"))
	}
	return items
}

// P19.2: the errors of tree: no more links, no more numbers, no more room.
func TestRestoreBounds(t *testing.T) {
	_, y := format(t, great)
	list := links(99)
	if e := fs.Restore(y, list...); e != api.OK {
		t.Errorf("P19.2: Restore of 99 links = %v", e)
	}
	dumped(t, y, "99 links", list...)
	_, y = format(t, great)
	if e := fs.Restore(y, links(101)...); e != api.ErrMlink {
		t.Errorf("P19.2: Restore of 100 links = %v", e)
	}
	dumped(t, y, "100 links", list...)
	if e := fs.Restore(y, fileItem("/l000", "")); e != api.ErrExist {
		t.Errorf("P19.2: Restore of what is there = %v", e)
	}

	_, y = format(t, small)
	var dirs []fs.Item
	for i := range 20 {
		dirs = append(dirs, dirItem(fmt.Sprintf("/d%02d", i)))
	}
	if e := fs.Restore(y, dirs...); e != api.ErrNospc {
		t.Errorf("P19.2: Restore of more directories than there are numbers = %v", e)
	}
	dumped(t, y, "no more numbers", dirs[:19]...)
}

// P19.2: not all bytes have room: as many as have are written.
func TestRestoreRoom(t *testing.T) {
	_, y := format(t, small)
	room := y.Vol().Geom().Room() - y.Vol().Cost()
	if room < 50 {
		t.Fatalf("the room is %d", room)
	}
	b := bytes.Repeat([]byte("0123456789abcdef"), 800) // a hundred blocks
	if e := fs.Restore(y, dirItem("/d"), fileItem("/d/f", string(b)), dirItem("/later")); e != api.ErrNospc {
		t.Errorf("P19.2: Restore of more than has room = %v", e)
	}
	n, e := y.Walk(root, "/d/f")
	s, _ := y.Stat(n)
	if e != api.OK || s.Size == 0 || s.Size%128 > 0 || y.Vol().Cost() != y.Vol().Geom().Room() {
		t.Errorf("P19.2: of a file without room %v are there, %v; the cost is %d", s, e, y.Vol().Cost())
	}
	dumped(t, y, "no more room", dirItem("/d"), fileItem("/d/f", string(b[:s.Size])))
	y.Truncate(n, 0)
	for i := 0; y.Vol().Cost() < y.Vol().Geom().Room(); i++ {
		y.Write(n, i, []byte("x"))
	}
	y.Truncate(n, s.Size-128) // room for one block
	if e := fs.Restore(y, fileItem("/e", "")); e != api.OK {
		t.Errorf("P19.2: Restore of a file without bytes = %v", e)
	}
	if e := fs.Restore(y, fileItem("/g", "x")); e != api.ErrNospc {
		t.Errorf("P19.2: Restore without room for another inode = %v", e)
	}
	if _, e := y.Walk(root, "g"); e != api.ErrNoent {
		t.Errorf("P19.2: what has no room is there: %v", e)
	}
	y.Unlink(root, "e")
	if e := fs.Restore(y, fileItem("/g", "x")); e != api.ErrNospc {
		t.Errorf("P19.2: Restore without room for a block = %v", e)
	}
	if g, e := y.Walk(root, "g"); e != api.OK || must(y.Stat(g)).Size != 0 {
		t.Errorf("P19.2: what was made ahead of its bytes isn't there: %v", e)
	}
}

func must[T any](x T, _ api.Errno) T { return x }

// P19.2: more bytes than a file may have.
func TestRestoreGreat(t *testing.T) {
	_, y := format(t, great)
	b := strings.Repeat("0123456789abcdef", api.MaxSize/16)
	if e := fs.Restore(y, fileItem("/a", b), fileItem("/b", b+"x")); e != api.ErrNospc {
		t.Errorf("P19.2: Restore of more bytes than a file may have = %v", e)
	}
	dumped(t, y, "the greatest files", fileItem("/a", b), fileItem("/b", b))
}

// P19.2: in a directory without links there is nothing made: the error of tree.
func TestRestoreOtherwise(t *testing.T) {
	_, y := grown(t)
	y.Vol().Link(root, -1)
	if e := fs.Restore(y, dirItem("/a")); e != api.ErrNoent {
		t.Errorf("P19.2: Restore in a Root without links = %v", e)
	}
	if e := fs.Restore(y, dirItem("/d")); e != api.ErrExist {
		t.Errorf("P19.2: Restore of what is there = %v", e)
	}
	_, y = grown(t)
	y.Vol().Write(root, 1, []byte("junk"))
	if e := fs.Restore(y, dirItem("/a")); e != api.ErrForm {
		t.Errorf("P19.2: Restore in a junk Root = %v", e)
	}
}
