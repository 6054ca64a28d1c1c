package tree_test

import (
	"bytes"
	"reflect"
	"slices"
	"testing"

	"drumlin/api"
	"drumlin/ckpt"
	"drumlin/dir"
	"drumlin/dirent"
	"drumlin/disk"
	"drumlin/geom"
	"drumlin/tree"
	"drumlin/vol"
)

// fresh: is it a tree of which nothing but Root is there, which was never marked?
func fresh(y *tree.Tree) bool {
	list, e := y.List(1)
	s, f := y.Stat(1)
	return e == api.OK && f == api.OK && slices.Equal(list, []dirent.Entry{{Num: 1, Name: ".."}}) && s == tree.Stat{Num: 1, Kind: api.Dir, Size: 128, Links: 1} && slices.Equal(y.Vol().Used(), []int{1}) && y.Vol().Cost() == 2
}

// P18.1, P18.5: what was formatted is there, with its checkpoint, without another flush.
func TestFormat(t *testing.T) {
	for _, g := range geoms {
		dd, y := format(t, g, 7)
		if !fresh(y) || y.Vol().Time() != 7 || y.Vol().Geom() != g || len(dd.Queue()) != 0 {
			t.Errorf("P18.1: Format(%v)", g)
		}
		if n, e := y.Walk(1, ".."); n != 1 || e != api.OK {
			t.Errorf("P18.1: Walk = %d, %v", n, e)
		}
		if list, e := ckpt.Regions(dd, g); e != api.OK || max(list[0], list[1]) < 2 {
			t.Errorf("P18.1: checkpoints %v", list)
		}
		s, e := ckpt.Read(dd, g)
		if slot, _ := s.Map.Get(1); e != api.OK || slot != must(y.Vol().Slot(1)) {
			t.Errorf("P18.1: the checkpoint has %v, %v", slot, e)
		}
		was := dd.Deeds()
		if e := y.Vol().Flush(); e != api.OK || dd.Deeds() != was {
			t.Errorf("P18.1: Flush behind Format = %v, %d deeds", e, dd.Deeds()-was)
		}
		z, e := tree.Mount(dd)
		if e != api.OK || !fresh(z) || z.Vol().Flush() != api.OK || dd.Deeds() != was {
			t.Errorf("P18.5: Mount = %v", e)
		}
	}
}

func must[T any](x T, _ api.Errno) T { return x }

// P18.1: a geometry that may not be, a disk that is too small, or that dies.
func TestFormatRefused(t *testing.T) {
	dd, _ := disk.New(small.Sectors() - 1)
	for _, g := range []geom.Geom{{}, small, {Segs: -1, Groups: 1, Inodes: 2}, {Segs: 20, Groups: 33, Inodes: 20}} {
		if y, e := tree.Format(dd, g, 1); y != nil || e != api.ErrInval {
			t.Errorf("P18.1: Format(%v) = %v, %v", g, y, e)
		}
	}
	if dd.Deeds() != 0 {
		t.Errorf("P18.3: a Format that is refused does %d deeds", dd.Deeds())
	}
}

// P18.5: wherever the disk dies in a Format: what is mounted is a fresh tree, if anything is.
func TestFormatDies(t *testing.T) {
	g := geom.Geom{Segs: 10, Groups: 1, Inodes: 3}
	dd, _ := disk.New(g.Sectors())
	mounted, unstarted := 0, 0
	for deeds := 0; ; deeds++ {
		twin := dd.Twin()
		twin.Arm(deeds)
		if y, e := tree.Format(twin, g, 1); e == api.OK {
			break
		} else if y != nil || e != api.ErrIo {
			t.Fatalf("P18.1: Format of a disk that dies = %v, %v", y, e)
		}
		for few := range 3 {
			last := twin.Twin()
			last.Crash(slices.Repeat([]bool{few > 0, few > 1}, len(last.Queue()))...)
			v, f := vol.Mount(last)
			y, e := tree.Mount(last)
			if e != f || e != api.OK && e != api.ErrForm || e == api.OK && !fresh(y) {
				t.Fatalf("P18.5: behind %d deeds: Mount = %v", deeds, e)
			}
			if e != api.OK {
				continue
			}
			mounted++
			if size, _ := v.Size(1); size == 0 {
				unstarted++
			}
			if n, e := y.Make(1, "a", api.File); n != 2 || e != api.OK || y.Vol().Flush() != api.OK {
				t.Fatalf("P18.5: behind %d deeds: Make = %d, %v", deeds, n, e)
			}
		}
	}
	if unstarted == 0 || mounted == unstarted {
		t.Errorf("P18.5: %d mounted, %d of them without a Root that was started: the test is in vain", mounted, unstarted)
	}
}

// P18.5: a Root without bytes is started, without a flush, and not marked.
func TestMountStarts(t *testing.T) {
	dd, _ := disk.New(small.Sectors())
	if _, e := vol.Format(dd, small, 5); e != api.OK {
		t.Fatalf("no volume: %v", e)
	}
	was := dd.Twin()
	for range 2 {
		y, e := tree.Mount(dd)
		if e != api.OK || !fresh(y) || !dd.Same(was) || dd.Deeds() != was.Deeds() {
			t.Fatalf("P18.5: Mount of a Root without bytes = %v", e)
		}
	}
	y, _ := tree.Mount(dd)
	if e := y.Vol().Flush(); e != api.OK {
		t.Errorf("P18.5: Flush = %v", e)
	}
	v, _ := vol.Mount(dd)
	if n, e := dir.Find(v, 1, ".."); n != 1 || e != api.OK {
		t.Errorf("P18.5: Find = %d, %v", n, e)
	}
}

// P18.5: what can't be mounted: no volume, a Root whose bytes are no directory's, a disk that is dead.
func TestMountRefused(t *testing.T) {
	empty, _ := disk.New(9)
	if y, e := tree.Mount(empty); y != nil || e != api.ErrForm {
		t.Errorf("P18.5: Mount of noughts = %v, %v", y, e)
	}
	for _, b := range [][]byte{[]byte("junk"), make([]byte, 128), make([]byte, 127), bytes.Repeat([]byte{9}, 128)} {
		dd, y := format(t, small, 1)
		y.Vol().Truncate(1, 0)
		y.Vol().Write(1, 0, b)
		if e := y.Vol().Flush(); e != api.OK {
			t.Fatalf("no flush: %v", e)
		}
		was := dd.Twin()
		if y, e := tree.Mount(dd); y != nil || e != api.ErrForm || !dd.Same(was) {
			t.Errorf("P18.5: Mount of a Root with %d bytes = %v, %v", len(b), y, e)
		}
	}
	dd, _ := format(t, small, 1)
	dd.Arm(0)
	dd.Flush()
	if y, e := tree.Mount(dd); y != nil || e != api.ErrIo {
		t.Errorf("P18.5: Mount of a dead disk = %v, %v", y, e)
	}
}

// P18.5: a mount of what was flushed: names, bytes, links, times; what wasn't flushed isn't there, nor what has no name.
func TestMount(t *testing.T) {
	dd, y := grown(t)
	if e := y.Vol().Flush(); e != api.OK {
		t.Fatalf("no flush: %v", e)
	}
	want := of(y)
	y.Make(1, "new", api.Dir)
	y.Rename(1, "d", "new/d")
	y.Truncate(f, 1)
	dd.Crash()
	z, e := tree.Mount(dd)
	if e != api.OK {
		t.Fatalf("P18.5: Mount = %v", e)
	}
	for _, num := range []int{lostDir, lost} {
		if _, e := z.Stat(num); e != api.ErrNoent || z.Drop(num) != api.ErrNoent {
			t.Errorf("P18.5: Stat of what has no name = %v", e)
		}
		want.stats[num], want.lists[num], want.bytes[num], want.paths[num] = tree.Stat{}, nil, "", ""
	}
	want.used = slices.DeleteFunc(want.used, func(num int) bool { return num == lostDir || num == lost })
	want.cost -= 2
	if now := of(z); !reflect.DeepEqual(now, want) {
		t.Errorf("P18.5: %v; want %v", now, want)
	}
	if e := z.Drop(f); e != api.ErrInval {
		t.Errorf("P18.5: Drop of what was held ahead of the mount = %v", e)
	}
}

// P1: of a volume that was changed otherwise each call ends.
func TestOtherwise(t *testing.T) {
	change := map[string]func(v *vol.Vol){
		"an entry of what is free":     func(v *vol.Vol) { dir.Insert(v, 1, "a", 12) },
		"an entry of no number":        func(v *vol.Vol) { dir.Insert(v, 1, "a", 200) },
		"an entry of Root":             func(v *vol.Vol) { dir.Insert(v, 1, "a", 1) },
		"an entry of what is above":    func(v *vol.Vol) { dir.Insert(v, e, "a", d) },
		"two that go round":            func(v *vol.Vol) { dir.Replace(v, d, "..", x); dir.Replace(v, x, "..", d) },
		"one that goes round":          func(v *vol.Vol) { dir.Replace(v, e, "..", e); dir.Insert(v, e, "a", e) },
		".. of a file":                 func(v *vol.Vol) { dir.Replace(v, e, "..", f) },
		".. of what is free":           func(v *vol.Vol) { dir.Replace(v, e, "..", 15) },
		"no ..":                        func(v *vol.Vol) { dir.Remove(v, e, "..") },
		"no .. of Root":                func(v *vol.Vol) { dir.Remove(v, 1, "..") },
		"Root below another one":       func(v *vol.Vol) { dir.Replace(v, 1, "..", e) },
		"a directory that isn't one":   func(v *vol.Vol) { v.Write(e, 1, []byte("junk")) },
		"Root that isn't a directory":  func(v *vol.Vol) { v.Write(1, 1, []byte("junk")) },
		"Root without links":           func(v *vol.Vol) { v.Link(1, -1) },
		"a file without links":         func(v *vol.Vol) { v.Link(f, -2) },
		"a file with too many":         func(v *vol.Vol) { v.Link(f, 98) },
		"a directory without links":    func(v *vol.Vol) { v.Link(e, -1) },
		"a directory that is gone":     func(v *vol.Vol) { v.Delete(e) },
		"a file that is gone":          func(v *vol.Vol) { v.Delete(f) },
		"what was held is gone":        func(v *vol.Vol) { v.Delete(lost); v.Delete(lostDir) },
		"what was held is another one": func(v *vol.Vol) { v.Delete(lost); v.New(api.Dir) },
		"a cost above the room":        func(v *vol.Vol) { v.Write(g, 0, make([]byte, 20000)) },
		"a directory of holes":         func(v *vol.Vol) { v.Truncate(x, 128*9); dir.Start(v, x, 1); v.Truncate(x, 0) },
	}
	paths := []string{"a", "d", "x", "f", "d/e", "d/g", "d/e/a", "a/a", "..", "/d/e/..", "/d/e/new", "d/new", "new", "x/new"}
	for what, do := range change {
		for i, old := range paths {
			for k, path := range paths {
				if (i*7+k)%3 > 0 {
					continue
				}
				_, y := grown(t)
				do(y.Vol())
				for _, from := range []int{1, e, x, lostDir} {
					y.Walk(from, path)
					y.Rename(from, old, path)
					y.Link(from, old, path)
					y.Make(from, path, 1+i%2)
					y.Unlink(from, old)
					y.Rmdir(from, path)
				}
				for num := range 21 {
					y.Path(num)
					y.Stat(num)
					y.List(num)
					y.Hold(num)
					y.LinkNum(num, 1, path)
					y.Write(num, 3, []byte("hi"))
					y.Truncate(num, 4)
					y.Drop(num)
					y.Drop(num)
				}
				if s, e := y.Stat(1); e != api.OK || s.Kind != api.Dir {
					t.Errorf("P18.1: %s: Stat of Root = %v, %v", what, s, e)
				}
			}
		}
	}
}

// Memory: what is handed in stays as it was, and isn't kept; what is answered is new.
func TestMemory(t *testing.T) {
	_, y := grown(t)
	b := []byte("kept?" + "behind")
	if n, e := y.Write(f, 0, b[:5]); n != 5 || e != api.OK || string(b) != "kept?behind" {
		t.Errorf("P18.1: Write = %d, %v; the bytes are %q", n, e, b)
	}
	b[0] = 'X'
	got, _ := y.Read(f, 0, 9)
	if string(got) != "kept?" {
		t.Errorf("P18.1: Read = %q", got)
	}
	got[1] = 'X'
	list, _ := y.List(d)
	list[0].Name, list[1].Num = "X", 99
	used := y.Vol().Used()
	used[0] = 99
	if again, _ := y.Read(f, 0, 9); string(again) != "kept?" {
		t.Errorf("P18.1: Read = %q", again)
	}
	if again, _ := y.List(d); again[0].Name != ".." || again[1].Num != e {
		t.Errorf("P18.1: List = %v", again)
	}
}
