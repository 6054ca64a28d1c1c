package fs_test

import (
	"slices"
	"strings"
	"testing"

	"drumlin/api"
	"drumlin/dir"
	"drumlin/dirent"
	"drumlin/disk"
	"drumlin/fs"
	"drumlin/geom"
	"drumlin/tree"
	"drumlin/vol"
)

var (
	small = geom.Geom{Segs: 20, Groups: 2, Inodes: 20}
	great = geom.Geom{Segs: 40, Groups: 32, Inodes: 200}
)

func format(t *testing.T, g geom.Geom) (*disk.Disk, *tree.Tree) {
	t.Helper()
	d, e := disk.New(g.Sectors())
	if e != api.OK {
		t.Fatalf("no disk of %v: %v", g, e)
	}
	x, e := tree.Format(d, g, 5)
	if e != api.OK {
		t.Fatalf("no tree of %v: %v", g, e)
	}
	return d, x
}

// The numbers of a small tree: directories /d, /d/e and /x; a file /f, which is /d/h, too; what is gone but held; what is free.
const (
	root, d, e, x, f = 1, 2, 3, 4, 5
	lostDir, lost    = 6, 7
	free, tooGreat   = 12, 21
)

// grown: that tree.
func grown(t *testing.T) (*disk.Disk, *tree.Tree) {
	t.Helper()
	dd, y := format(t, small)
	for _, z := range []struct {
		path      string
		kind, num int
	}{{"/d", api.Dir, d}, {"/d/e", api.Dir, e}, {"/x", api.Dir, x}, {"/f", api.File, f}, {"/gone", api.Dir, lostDir}, {"/lost", api.File, lost}} {
		if num, e := y.Make(root, z.path, z.kind); num != z.num || e != api.OK {
			t.Fatalf("no %q: %d, %v", z.path, num, e)
		}
	}
	for _, e := range []api.Errno{y.Link(root, "f", "d/h"), y.Hold(lostDir), y.Hold(lost), y.Rmdir(root, "gone"), y.Unlink(root, "lost")} {
		if e != api.OK {
			t.Fatalf("no tree: %v", e)
		}
	}
	y.Write(f, 0, []byte("hello"))
	return dd, y
}

// dirItem, fileItem and linkItem: items as a Dump has them.
func dirItem(path string) fs.Item { return fs.Item{Path: path, Kind: api.Dir} }
func fileItem(path, data string) fs.Item {
	return fs.Item{Path: path, Kind: api.File, Data: []byte(data)}
}
func linkItem(path, link string) fs.Item { return fs.Item{Path: path, Kind: api.File, Link: link} }

func entry(num int, name string) dirent.Entry { return dirent.Entry{Num: num, Name: name} }

// texts: items so that a test can tell them.
func texts(items []fs.Item) []string {
	var list []string
	for _, x := range items {
		switch {
		case x.Kind == api.Dir:
			list = append(list, x.Path+"/")
		case x.Link != "":
			list = append(list, x.Path+" -> "+x.Link)
		default:
			list = append(list, x.Path+" "+string(x.Data))
		}
	}
	return list
}

// lay: just these entries are those of a directory, as many blocks of four as they need; those of Num 0 are none.
func lay(v *vol.Vol, num int, entries ...dirent.Entry) {
	v.Truncate(num, 0)
	for i := 0; i < len(entries); i += 4 {
		var block [4]dirent.Entry
		copy(block[:], entries[i:])
		s, _ := dirent.Write(block)
		v.Write(num, 32*i, s[:])
	}
}

// dumped: a Dump, of which this is wanted.
func dumped(t *testing.T, y *tree.Tree, what string, want ...fs.Item) {
	t.Helper()
	got, e := fs.Dump(y)
	if e != api.OK || !fs.Same(got, want) {
		t.Errorf("P19.1: %s: Dump = %q, %v; want %q", what, texts(got), e, texts(want))
	}
	for _, x := range got {
		if x.Kind == api.Dir && (x.Link != "" || x.Data != nil) || x.Link != "" && x.Data != nil {
			t.Errorf("P19.1: %s: an item %v", what, x)
		}
	}
}

// P19.1: the document's example, and each directory's entries by rising names, each followed by what is below it.
func TestDump(t *testing.T) {
	_, y := format(t, small)
	dumped(t, y, "a fresh tree")
	n, _ := y.Make(root, "f", api.File)
	y.Write(n, 0, []byte("bytes"))
	y.Link(root, "f", "g")
	dumped(t, y, "the example", fileItem("/f", "bytes"), linkItem("/g", "/f"))

	_, y = grown(t)
	dumped(t, y, "grown", dirItem("/d"), dirItem("/d/e"), fileItem("/d/h", "hello"), linkItem("/f", "/d/h"), dirItem("/x"))

	_, y = format(t, small)
	for _, name := range []string{"b", "a", "a.b", "B", "\xff", "a b", "é", "ab"} {
		y.Make(root, name, api.Dir)
	}
	y.Make(root, "a/z", api.File)
	y.Make(root, "a/y", api.File)
	dumped(t, y, "names by their bytes", dirItem("/B"), dirItem("/a"), fileItem("/a/y", ""), fileItem("/a/z", ""), dirItem("/a b"), dirItem("/a.b"), dirItem("/ab"), dirItem("/b"), dirItem("/é"), dirItem("/\xff"))
}

// P19.1: a file's bytes are all of them: noughts of holes, too.
func TestDumpBytes(t *testing.T) {
	_, y := format(t, great)
	n, _ := y.Make(root, "hole", api.File)
	y.Write(n, 1100, []byte("ab"))
	m, _ := y.Make(root, "most", api.File)
	b := []byte(strings.Repeat("0123456789abcdef", api.MaxSize/16))
	y.Write(m, 0, b)
	k, _ := y.Make(root, "long", api.File)
	y.Truncate(k, api.MaxSize)
	y.Make(root, "none", api.File)
	dumped(t, y, "great files", fileItem("/hole", strings.Repeat("\x00", 1100)+"ab"), fileItem("/long", strings.Repeat("\x00", api.MaxSize)), fileItem("/most", string(b)), fileItem("/none", ""))
}

// chain: directories one in another, each of the longest name; the number of the last one, and its path.
func chain(t *testing.T, y *tree.Tree, n int) (int, string) {
	t.Helper()
	num, path := root, ""
	for range n {
		name := strings.Repeat("n", api.MaxName)
		below, e := y.Make(num, name, api.Dir)
		if e != api.OK {
			t.Fatalf("no directory in %q: %v", path, e)
		}
		num, path = below, path+"/"+name
	}
	return num, path
}

// P19.1, P19.2: paths are longer, and have more parts, than tree takes; they are made again.
func TestDeep(t *testing.T) {
	_, y := format(t, great)
	num, path := chain(t, y, 150)
	file, _ := y.Make(num, "f", api.File)
	y.Write(file, 0, []byte("deep"))
	if e := y.LinkNum(file, root, "z"); e != api.OK {
		t.Fatalf("no link: %v", e)
	}
	list, e := fs.Dump(y)
	if e != api.OK || len(list) != 152 || list[149].Path != path || !fs.Same(list[150:], []fs.Item{fileItem(path+"/f", "deep"), linkItem("/z", path+"/f")}) {
		t.Fatalf("P19.1: Dump of %d directories: %d items, %v", 150, len(list), e)
	}
	if faults := fs.Check(y); len(faults) > 0 {
		t.Errorf("P19.4: Check = %v", faults)
	}
	again(t, list)
}

// again: it is packed, unpacked, and made again in another volume; nothing is wrong with that.
func again(t *testing.T, list []fs.Item) *tree.Tree {
	t.Helper()
	b, e := fs.Pack(list...)
	if e != api.OK {
		t.Fatalf("P19.3: Pack = %v", e)
	}
	items, e := fs.Unpack(b)
	if e != api.OK || !fs.Same(items, list) {
		t.Fatalf("P19.3: Unpack = %q, %v", texts(items), e)
	}
	dd, y := format(t, great)
	if e := fs.Restore(y, items...); e != api.OK {
		t.Fatalf("P19.2: Restore = %v", e)
	}
	dumped(t, y, "restored", list...)
	if faults := fs.Check(y); len(faults) > 0 {
		t.Errorf("P19.4: Check of what was restored = %v", faults)
	}
	if e := y.Vol().Flush(); e != api.OK {
		t.Fatalf("P19.2: Flush = %v", e)
	}
	dd.Crash()
	z, e := tree.Mount(dd)
	if e != api.OK {
		t.Fatalf("P19.2: Mount = %v", e)
	}
	dumped(t, z, "mounted", list...)
	return y
}

// P19.1: directories that were changed otherwise: each item by each way on which no directory is twice.
func TestDumpOtherwise(t *testing.T) {
	for _, z := range []struct {
		what   string
		change func(v *vol.Vol)
		want   []fs.Item
	}{
		{"alike names", func(v *vol.Vol) {
			lay(v, root, entry(x, "b"), entry(f, "a"), entry(x, "b"), entry(root, ".."), entry(d, "b"), entry(x, "a"))
		}, []fs.Item{fileItem("/a", "hello"), dirItem("/a"), dirItem("/b"), dirItem("/b"), dirItem("/b"), dirItem("/b/e"), linkItem("/b/h", "/a")}},
		{"what is above", func(v *vol.Vol) { dir.Insert(v, e, "up", d) },
			[]fs.Item{dirItem("/d"), dirItem("/d/e"), dirItem("/d/e/up"), fileItem("/d/h", "hello"), linkItem("/f", "/d/h"), dirItem("/x")}},
		{"Root", func(v *vol.Vol) { dir.Insert(v, root, "r", root); dir.Insert(v, x, "r", root) },
			[]fs.Item{dirItem("/d"), dirItem("/d/e"), fileItem("/d/h", "hello"), linkItem("/f", "/d/h"), dirItem("/r"), dirItem("/x"), dirItem("/x/r")}},
		{"itself", func(v *vol.Vol) { dir.Insert(v, x, "x", x) },
			[]fs.Item{dirItem("/d"), dirItem("/d/e"), fileItem("/d/h", "hello"), linkItem("/f", "/d/h"), dirItem("/x"), dirItem("/x/x")}},
		{"two names", func(v *vol.Vol) { dir.Insert(v, root, "a", d) },
			[]fs.Item{dirItem("/a"), dirItem("/a/e"), fileItem("/a/h", "hello"), dirItem("/d"), dirItem("/d/e"), linkItem("/d/h", "/a/h"), linkItem("/f", "/a/h"), dirItem("/x")}},
		{"two in each other", func(v *vol.Vol) { dir.Insert(v, d, "x", x); dir.Insert(v, x, "d", d) },
			[]fs.Item{dirItem("/d"), dirItem("/d/e"), fileItem("/d/h", "hello"), dirItem("/d/x"), dirItem("/d/x/d"), linkItem("/f", "/d/h"), dirItem("/x"), dirItem("/x/d"), dirItem("/x/d/e"), linkItem("/x/d/h", "/d/h"), dirItem("/x/d/x")}},
		{"a name that isn't one", func(v *vol.Vol) { dir.Insert(v, root, ".", x); dir.Insert(v, root, "...", f) },
			[]fs.Item{dirItem("/."), fileItem("/...", "hello"), dirItem("/d"), dirItem("/d/e"), linkItem("/d/h", "/..."), linkItem("/f", "/..."), dirItem("/x")}},
		{"more than one ..", func(v *vol.Vol) { lay(v, x, entry(root, ".."), entry(f, ".."), entry(free, "..")) },
			[]fs.Item{dirItem("/d"), dirItem("/d/e"), fileItem("/d/h", "hello"), linkItem("/f", "/d/h"), dirItem("/x")}},
		{"no ..", func(v *vol.Vol) { dir.Remove(v, d, ".."); dir.Remove(v, x, ".."); dir.Remove(v, root, "..") },
			[]fs.Item{dirItem("/d"), dirItem("/d/e"), fileItem("/d/h", "hello"), linkItem("/f", "/d/h"), dirItem("/x")}},
		{"without links", func(v *vol.Vol) { v.Link(d, -1); v.Link(f, -2); dir.Insert(v, root, "a", lost) },
			[]fs.Item{fileItem("/a", ""), dirItem("/d"), dirItem("/d/e"), fileItem("/d/h", "hello"), linkItem("/f", "/d/h"), dirItem("/x")}},
		{"a Root without bytes", func(v *vol.Vol) { v.Truncate(root, 0) }, nil},
		{"junk that Root doesn't lead to", func(v *vol.Vol) { v.Write(lostDir, 0, []byte("junk")); dir.Replace(v, x, "..", lostDir) },
			[]fs.Item{dirItem("/d"), dirItem("/d/e"), fileItem("/d/h", "hello"), linkItem("/f", "/d/h"), dirItem("/x")}},
	} {
		_, y := grown(t)
		z.change(y.Vol())
		dumped(t, y, z.what, z.want...)
	}
}

// P19.1: of many alike names the first one comes first.
func TestDumpAlike(t *testing.T) {
	_, y := grown(t)
	var entries []dirent.Entry
	var want []fs.Item
	for i := range 60 {
		num := []int{x, f, e}[i*i%7%3]
		entries = append(entries, entry(num, "b"), entry(x, "a"))
		item := dirItem("/b")
		if num == f {
			item = linkItem("/b", "/b")
		}
		want = append(want, item)
	}
	i := slices.IndexFunc(want, func(x fs.Item) bool { return x.Link != "" })
	want[i] = fileItem("/b", "hello")
	lay(y.Vol(), root, entries...)
	dumped(t, y, "many alike names", append(slices.Repeat([]fs.Item{dirItem("/a")}, 60), want...)...)
}

// P19.1: the first error that is met, in the order of the items; nothing beside it.
func TestDumpErrors(t *testing.T) {
	junk := func(num int) func(v *vol.Vol) { return func(v *vol.Vol) { v.Write(num, 1, []byte("junk")) } }
	names := func(num int, name string, target int) func(v *vol.Vol) {
		return func(v *vol.Vol) { dir.Insert(v, num, name, target) }
	}
	for _, z := range []struct {
		what   string
		change []func(v *vol.Vol)
		want   api.Errno
	}{
		{"what is free", []func(v *vol.Vol){names(e, "a", free)}, api.ErrNoent},
		{"no number", []func(v *vol.Vol){names(e, "a", tooGreat)}, api.ErrInval},
		{"no number at all", []func(v *vol.Vol){names(root, "a", api.MaxInodes)}, api.ErrInval},
		{"junk", []func(v *vol.Vol){junk(x)}, api.ErrForm},
		{"a junk Root", []func(v *vol.Vol){junk(root)}, api.ErrForm},
		{"junk, then what is free", []func(v *vol.Vol){junk(d), names(x, "a", free)}, api.ErrForm},
		{"what is free, then junk", []func(v *vol.Vol){names(d, "a", free), junk(x)}, api.ErrNoent},
		{"junk, whose name comes later", []func(v *vol.Vol){junk(e), names(d, "a", free)}, api.ErrNoent},
		{"junk below, ahead of what is free", []func(v *vol.Vol){junk(e), names(d, "f", free)}, api.ErrForm},
		{"no number, though it stands behind", []func(v *vol.Vol){names(root, "z", free), names(root, "a", tooGreat)}, api.ErrInval},
		{"what is free, behind a way round", []func(v *vol.Vol){names(e, "up", d), names(e, "z", free), names(x, "a", tooGreat)}, api.ErrNoent},
		{"by a second name", []func(v *vol.Vol){names(x, "z", free), names(d, "x", x), names(root, "g", tooGreat)}, api.ErrNoent},
	} {
		_, y := grown(t)
		for _, do := range z.change {
			do(y.Vol())
		}
		if list, e := fs.Dump(y); e != z.want || list != nil {
			t.Errorf("P19.1: %s: Dump = %q, %v; want %v", z.what, texts(list), e, z.want)
		}
	}
}

// P19.1: a disk that died.
func TestDumpDead(t *testing.T) {
	dd, y := grown(t)
	y.Vol().Flush()
	dd.Arm(0)
	dd.Flush()
	if list, e := fs.Dump(y); list != nil || e != api.ErrIo {
		t.Errorf("P19.1: Dump of a dead disk = %q, %v", texts(list), e)
	}
	fs.Check(y)
	if e := fs.Restore(y, dirItem("/new")); e != api.ErrIo {
		t.Errorf("P19.2: Restore on a dead disk = %v", e)
	}
}

// doubled: directories one in another, each of two names; the last one's number.
func doubled(t *testing.T, y *tree.Tree, n int) int {
	t.Helper()
	num := root
	for range n {
		below, e := y.Make(num, "a", api.Dir)
		if e != api.OK {
			t.Fatalf("no directory: %v", e)
		}
		dir.Insert(y.Vol(), num, "b", below)
		num = below
	}
	return num
}

// P19.1: what has many names comes as often as there are ways to it; an error is met however many there are.
func TestDumpWays(t *testing.T) {
	_, y := format(t, great)
	doubled(t, y, 10)
	list, e := fs.Dump(y)
	if e != api.OK || len(list) != 2046 || list[9].Path != strings.Repeat("/a", 10) || list[10].Path != strings.Repeat("/a", 9)+"/b" || list[2045].Path != strings.Repeat("/b", 10) {
		t.Errorf("P19.1: Dump of ten directories of two names each: %d items, %v", len(list), e)
	}
	_, y = format(t, great)
	last := doubled(t, y, 100)
	dir.Insert(y.Vol(), last, "c", 199)
	if list, e := fs.Dump(y); list != nil || e != api.ErrNoent {
		t.Errorf("P19.1: Dump = %d items, %v", len(list), e)
	}
	want := []fs.Fault{{Num: root, What: fs.Twice}}
	for num := 2; num < last; num++ {
		want = append(want, fs.Fault{Num: num, What: fs.Links}, fs.Fault{Num: num, What: fs.Twice})
	}
	want = append(want, fs.Fault{Num: last, What: fs.Links}, fs.Fault{Num: last, What: fs.Dangling})
	if faults := fs.Check(y); !slices.Equal(faults, want) {
		t.Errorf("P19.5: Check of a hundred directories of two names each = %v", faults)
	}
}

// P19.3: the same items, in the same order.
func TestSame(t *testing.T) {
	list := []fs.Item{dirItem("/d"), fileItem("/f", "x"), linkItem("/g", "/f")}
	if !fs.Same(list, slices.Clone(list)) || !fs.Same(nil, nil) || !fs.Same(nil, []fs.Item{}) || !fs.Same([]fs.Item{{Data: []byte{}}}, []fs.Item{{}}) {
		t.Errorf("P19.3: Same of alike ones")
	}
	for what, other := range map[string][]fs.Item{
		"none":            nil,
		"fewer":           list[:2],
		"more":            append(slices.Clone(list), dirItem("/z")),
		"another order":   {list[1], list[0], list[2]},
		"another path":    {dirItem("/D"), list[1], list[2]},
		"another kind":    {{Path: "/d", Kind: api.File}, list[1], list[2]},
		"another link":    {list[0], list[1], linkItem("/g", "/d")},
		"no link":         {list[0], list[1], fileItem("/g", "")},
		"other bytes":     {list[0], fileItem("/f", "y"), list[2]},
		"no bytes":        {list[0], fileItem("/f", ""), list[2]},
		"more bytes":      {list[0], fileItem("/f", "xx"), list[2]},
		"link and bytes":  {list[0], list[1], {Path: "/g", Kind: api.File, Link: "/f", Data: []byte("x")}},
		"kind of no kind": {{Path: "/d", Kind: 7}, list[1], list[2]},
	} {
		if fs.Same(list, other) || fs.Same(other, list) {
			t.Errorf("P19.3: %s: Same", what)
		}
	}
}

// Memory: what is handed in stays as it was, and isn't kept; what is answered is new.
func TestMemory(t *testing.T) {
	_, y := grown(t)
	list, _ := fs.Dump(y)
	want := texts(list)
	list[2].Data[0] = 'X'
	list[0] = fs.Item{}
	list, _ = fs.Dump(y)
	if got := texts(list); !slices.Equal(got, want) {
		t.Errorf("P19.1: Dump = %q; want %q", got, want)
	}
	_, z := format(t, small)
	spare := append(slices.Clone(list[2].Data), "spare"...)
	list[2].Data = spare[:5]
	if e := fs.Restore(z, list...); e != api.OK || !slices.Equal(texts(list), want) || string(spare) != "hellospare" {
		t.Errorf("P19.2: Restore = %v; the items are %q", e, texts(list))
	}
	b, _ := fs.Pack(list...)
	spare[0] = 'X'
	dumped(t, z, "behind a change of what was handed in", dirItem("/d"), dirItem("/d/e"), fileItem("/d/h", "hello"), linkItem("/f", "/d/h"), dirItem("/x"))
	got, e := fs.Unpack(b)
	if e != api.OK || !slices.Equal(texts(got), want) {
		t.Fatalf("P19.3: Unpack = %q, %v", texts(got), e)
	}
	kept := string(b)
	got[2].Data = append(got[2].Data, "more"...)
	got[2].Data[0] = 'X'
	if string(b) != kept {
		t.Errorf("P19.3: what was unpacked is %q", b)
	}
	b[0] = 9
	if got[2].Path != "/d/h" || string(got[2].Data) != "Xellomore" {
		t.Errorf("P19.3: Unpack keeps what it was handed")
	}
}
