package fs_test

import (
	"slices"
	"testing"

	"drumlin/api"
	"drumlin/dir"
	"drumlin/fs"
	"drumlin/vol"
)

// P19.5: the numbers of what may be wrong.
func TestFaults(t *testing.T) {
	if fs.Links != 1 || fs.Lost != 2 || fs.Dangling != 3 || fs.Bytes != 4 || fs.Parent != 5 || fs.Twice != 6 {
		t.Errorf("P19.5: %d, %d, %d, %d, %d, %d", fs.Links, fs.Lost, fs.Dangling, fs.Bytes, fs.Parent, fs.Twice)
	}
}

// odd: a volume that was changed otherwise, and what Check tells of it.
type odd struct {
	what   string
	change func(v *vol.Vol)
	want   []fs.Fault
}

func check(t *testing.T, list ...odd) {
	t.Helper()
	for _, z := range list {
		_, y := grown(t)
		if got := fs.Check(y); got != nil {
			t.Fatalf("P19.4: Check = %v", got)
		}
		z.change(y.Vol())
		if got := fs.Check(y); !slices.Equal(got, z.want) {
			t.Errorf("P19.5: %s: Check = %v; want %v", z.what, got, z.want)
		}
		if e := y.Vol().Flush(); e != api.OK {
			t.Fatalf("P19.5: %s: Flush = %v", z.what, e)
		}
		if got := fs.Check(y); !slices.Equal(got, z.want) {
			t.Errorf("P19.5: %s: Check behind a flush = %v; want %v", z.what, got, z.want)
		}
	}
}

// P19.5: links, of all numbers that aren't free.
func TestCheckLinks(t *testing.T) {
	check(t,
		odd{"a link too many", func(v *vol.Vol) { v.Link(f, 1) }, []fs.Fault{{f, fs.Links}}},
		odd{"a link too few", func(v *vol.Vol) { v.Link(f, -1) }, []fs.Fault{{f, fs.Links}}},
		odd{"no links", func(v *vol.Vol) { v.Link(f, -2) }, []fs.Fault{{f, fs.Links}}},
		odd{"a link of what has no name", func(v *vol.Vol) { v.Link(lost, 1) }, []fs.Fault{{lost, fs.Links}}},
		odd{"a name of what has no links", func(v *vol.Vol) { dir.Insert(v, root, "a", lost) }, []fs.Fault{{lost, fs.Links}}},
		odd{"a name, and a link", func(v *vol.Vol) { dir.Insert(v, root, "a", lost); v.Link(lost, 1) }, nil},
		odd{"Root with two", func(v *vol.Vol) { v.Link(root, 1) }, []fs.Fault{{root, fs.Links}}},
		odd{"Root without links", func(v *vol.Vol) { v.Link(root, -1) }, []fs.Fault{{root, fs.Links}}},
		odd{"a name of Root", func(v *vol.Vol) { dir.Insert(v, e, "a", root) }, []fs.Fault{{root, fs.Links}}},
		odd{"a name of Root, and a link", func(v *vol.Vol) { dir.Insert(v, root, "a", root); v.Link(root, 1) }, nil},
		odd{"a directory with two", func(v *vol.Vol) { v.Link(e, 1) }, []fs.Fault{{e, fs.Links}}},
		odd{"a directory without links", func(v *vol.Vol) { v.Link(e, -1) }, []fs.Fault{{e, fs.Links}}},
		odd{"more than one", func(v *vol.Vol) { v.Link(e, 1); v.Link(f, 1); v.Link(d, 1) }, []fs.Fault{{d, fs.Links}, {e, fs.Links}, {f, fs.Links}}},
		odd{"a name in what has no links", func(v *vol.Vol) { dir.Start(v, lostDir, root); dir.Insert(v, lostDir, "a", f) }, []fs.Fault{{f, fs.Links}}},
		odd{".. of more than one", func(v *vol.Vol) { lay(v, x, entry(root, ".."), entry(f, ".."), entry(e, "..")) }, nil},
	)
}

// P19.5: what Root doesn't lead to, or has no "..".
func TestCheckLost(t *testing.T) {
	check(t,
		odd{"no ..", func(v *vol.Vol) { dir.Remove(v, d, "..") }, []fs.Fault{{d, fs.Lost}}},
		odd{"no bytes", func(v *vol.Vol) { v.Truncate(e, 0) }, []fs.Fault{{e, fs.Lost}}},
		odd{"no .. of Root", func(v *vol.Vol) { dir.Remove(v, root, "..") }, []fs.Fault{{root, fs.Lost}}},
		odd{"no ..: of what has no links nothing is told", func(v *vol.Vol) { v.Link(d, -1); dir.Remove(v, d, "..") }, []fs.Fault{{d, fs.Links}}},
		odd{"no name", func(v *vol.Vol) { dir.Remove(v, d, "e") }, []fs.Fault{{e, fs.Links}, {e, fs.Lost}, {e, fs.Parent}}},
		odd{"no name, no ..", func(v *vol.Vol) { dir.Remove(v, d, "e"); dir.Remove(v, e, "..") }, []fs.Fault{{e, fs.Links}, {e, fs.Lost}}},
		odd{"a new one", func(v *vol.Vol) { n, _ := v.New(api.Dir); v.Link(n, 1) }, []fs.Fault{{8, fs.Links}, {8, fs.Lost}}},
		odd{"a new one without links", func(v *vol.Vol) { v.New(api.Dir); v.New(api.File) }, nil},
		odd{"two that lead to each other", func(v *vol.Vol) {
			for _, n := range []int{8, 9} {
				v.New(api.Dir)
				v.Link(n, 1)
				dir.Start(v, n, 17-n)
				dir.Insert(v, n, "a", 17-n)
			}
		}, []fs.Fault{{8, fs.Lost}, {9, fs.Lost}}},
		odd{"one that leads to itself", func(v *vol.Vol) {
			v.New(api.Dir)
			v.Link(8, 1)
			dir.Start(v, 8, 8)
			dir.Insert(v, 8, "a", 8)
		}, []fs.Fault{{8, fs.Lost}}},
		odd{"one that but .. leads to", func(v *vol.Vol) {
			v.New(api.Dir)
			v.Link(8, 1)
			dir.Start(v, 8, 8)
			dir.Insert(v, 8, "a", 8)
			dir.Replace(v, e, "..", 8)
		}, []fs.Fault{{e, fs.Parent}, {8, fs.Lost}}},
		odd{"below what is lost", func(v *vol.Vol) { dir.Remove(v, root, "d") }, []fs.Fault{{d, fs.Links}, {d, fs.Lost}, {d, fs.Parent}, {e, fs.Lost}}},
		odd{"by what has no links", func(v *vol.Vol) { v.Link(d, -1) }, []fs.Fault{{d, fs.Links}}},
		odd{"by what has no links nor a name", func(v *vol.Vol) {
			dir.Start(v, lostDir, root)
			dir.Remove(v, root, "x")
			dir.Insert(v, lostDir, "x", x)
		}, []fs.Fault{{x, fs.Lost}, {x, fs.Parent}}},
		odd{"a Root without bytes", func(v *vol.Vol) { v.Truncate(root, 0) }, []fs.Fault{{root, fs.Lost}, {d, fs.Links}, {d, fs.Lost}, {d, fs.Parent}, {e, fs.Lost}, {x, fs.Links}, {x, fs.Lost}, {x, fs.Parent}, {f, fs.Links}}},
	)
}

// P19.5: entries that name what isn't there.
func TestCheckDangling(t *testing.T) {
	check(t,
		odd{"what is free", func(v *vol.Vol) { dir.Insert(v, e, "a", free) }, []fs.Fault{{e, fs.Dangling}}},
		odd{"no number", func(v *vol.Vol) { dir.Insert(v, root, "a", tooGreat) }, []fs.Fault{{root, fs.Dangling}}},
		odd{"no number at all", func(v *vol.Vol) { dir.Insert(v, x, "a", api.MaxInodes) }, []fs.Fault{{x, fs.Dangling}}},
		odd{"more than one", func(v *vol.Vol) {
			dir.Insert(v, e, "a", free)
			dir.Insert(v, e, "b", tooGreat)
			dir.Insert(v, root, "b", free)
		}, []fs.Fault{{root, fs.Dangling}, {e, fs.Dangling}}},
		odd{"a file that is gone", func(v *vol.Vol) { v.Delete(f) }, []fs.Fault{{root, fs.Dangling}, {d, fs.Dangling}}},
		odd{"a directory that is gone", func(v *vol.Vol) { v.Delete(e) }, []fs.Fault{{d, fs.Dangling}}},
		odd{"a directory that isn't empty is gone", func(v *vol.Vol) { v.Delete(d) }, []fs.Fault{{root, fs.Dangling}, {e, fs.Links}, {e, fs.Lost}, {e, fs.Parent}, {f, fs.Links}}},
		odd{"what is gone is another one", func(v *vol.Vol) { v.Delete(e); v.New(api.File) }, []fs.Fault{{e, fs.Links}}},
		odd{".. is none of these", func(v *vol.Vol) { dir.Replace(v, e, "..", free); dir.Replace(v, x, "..", tooGreat) }, []fs.Fault{{e, fs.Parent}, {x, fs.Parent}}},
		odd{"of what has no links nothing is told", func(v *vol.Vol) { dir.Start(v, lostDir, free); dir.Insert(v, lostDir, "a", free) }, nil},
	)
}

// P19.5: bytes that are no directory's: then nothing else is told of it but its links.
func TestCheckBytes(t *testing.T) {
	junk := func(v *vol.Vol, nums ...int) {
		for _, num := range nums {
			v.Write(num, 1, []byte("junk"))
		}
	}
	check(t,
		odd{"junk", func(v *vol.Vol) { junk(v, e) }, []fs.Fault{{e, fs.Bytes}}},
		odd{"junk, and no links", func(v *vol.Vol) { junk(v, e); v.Link(e, -1) }, []fs.Fault{{e, fs.Links}}},
		odd{"junk, and a link more", func(v *vol.Vol) { junk(v, e); v.Link(e, 1) }, []fs.Fault{{e, fs.Links}, {e, fs.Bytes}}},
		odd{"junk, and no name", func(v *vol.Vol) { junk(v, e); dir.Remove(v, d, "e") }, []fs.Fault{{e, fs.Links}, {e, fs.Bytes}}},
		odd{"a block too many", func(v *vol.Vol) { v.Truncate(e, 256) }, []fs.Fault{{e, fs.Bytes}}},
		odd{"a byte too few", func(v *vol.Vol) { v.Truncate(e, 127) }, []fs.Fault{{e, fs.Bytes}}},
		odd{"one with others", func(v *vol.Vol) { junk(v, d) }, []fs.Fault{{d, fs.Bytes}, {e, fs.Links}, {e, fs.Lost}, {e, fs.Parent}, {f, fs.Links}}},
		odd{"Root", func(v *vol.Vol) { junk(v, root) }, []fs.Fault{{root, fs.Bytes}, {d, fs.Links}, {d, fs.Lost}, {d, fs.Parent}, {e, fs.Lost}, {x, fs.Links}, {x, fs.Lost}, {x, fs.Parent}, {f, fs.Links}}},
		odd{"of what has no links nothing is told", func(v *vol.Vol) { junk(v, lostDir) }, nil},
		odd{"nor of files", func(v *vol.Vol) { junk(v, f, lost) }, nil},
	)
}

// P19.5: "..".
func TestCheckParent(t *testing.T) {
	check(t,
		odd{"another one", func(v *vol.Vol) { dir.Replace(v, e, "..", x) }, []fs.Fault{{e, fs.Parent}}},
		odd{"Root, which isn't it", func(v *vol.Vol) { dir.Replace(v, e, "..", root) }, []fs.Fault{{e, fs.Parent}}},
		odd{"itself", func(v *vol.Vol) { dir.Replace(v, e, "..", e) }, []fs.Fault{{e, fs.Parent}}},
		odd{"a file", func(v *vol.Vol) { dir.Replace(v, e, "..", f) }, []fs.Fault{{e, fs.Parent}}},
		odd{"another one of Root", func(v *vol.Vol) { dir.Replace(v, root, "..", d) }, []fs.Fault{{root, fs.Parent}}},
		odd{"another one of Root, in which it is", func(v *vol.Vol) { dir.Replace(v, root, "..", d); dir.Insert(v, d, "r", root) }, []fs.Fault{{root, fs.Links}, {root, fs.Parent}}},
		odd{"itself, in which it is", func(v *vol.Vol) { dir.Replace(v, e, "..", e); dir.Insert(v, e, "e", e) }, []fs.Fault{{e, fs.Links}, {e, fs.Twice}}},
		odd{"the other one of two", func(v *vol.Vol) { dir.Replace(v, e, "..", x); dir.Insert(v, x, "e", e) }, []fs.Fault{{e, fs.Links}, {x, fs.Twice}}},
		odd{"the other one of two, that has no links", func(v *vol.Vol) {
			dir.Start(v, lostDir, root)
			dir.Replace(v, e, "..", lostDir)
			dir.Insert(v, lostDir, "e", e)
		}, []fs.Fault{{e, fs.Links}}},
		odd{"one that has no links, and not it", func(v *vol.Vol) { dir.Start(v, lostDir, root); dir.Replace(v, e, "..", lostDir) }, []fs.Fault{{e, fs.Parent}}},
		odd{"one in which but .. is it", func(v *vol.Vol) { dir.Replace(v, e, "..", x); dir.Replace(v, x, "..", e) }, []fs.Fault{{e, fs.Parent}, {x, fs.Parent}}},
		odd{"one that was moved", func(v *vol.Vol) { dir.Remove(v, d, "e"); dir.Insert(v, x, "e", e) }, []fs.Fault{{e, fs.Parent}}},
		odd{"the first one of two", func(v *vol.Vol) { lay(v, e, entry(d, ".."), entry(x, "..")) }, nil},
		odd{"the second one of two", func(v *vol.Vol) { lay(v, e, entry(x, ".."), entry(d, "..")) }, []fs.Fault{{e, fs.Parent}}},
		odd{"of what has no links nothing is told", func(v *vol.Vol) { dir.Start(v, lostDir, e) }, nil},
	)
}

// P19.5: directories that have more than one name.
func TestCheckTwice(t *testing.T) {
	check(t,
		odd{"in one directory", func(v *vol.Vol) { dir.Insert(v, root, "d2", d) }, []fs.Fault{{root, fs.Twice}, {d, fs.Links}}},
		odd{"in one directory, with a link more", func(v *vol.Vol) { dir.Insert(v, root, "d2", d); v.Link(d, 1) }, []fs.Fault{{root, fs.Twice}}},
		odd{"in one of a greater number", func(v *vol.Vol) { dir.Insert(v, x, "d2", d) }, []fs.Fault{{d, fs.Links}, {x, fs.Twice}}},
		odd{"in one of a lesser number", func(v *vol.Vol) { dir.Insert(v, root, "e2", e) }, []fs.Fault{{d, fs.Twice}, {e, fs.Links}}},
		odd{"three times", func(v *vol.Vol) { dir.Insert(v, root, "e2", e); dir.Insert(v, x, "e2", e); dir.Insert(v, x, "e3", e) }, []fs.Fault{{d, fs.Twice}, {e, fs.Links}, {x, fs.Twice}}},
		odd{"what is above", func(v *vol.Vol) { dir.Insert(v, e, "d", d) }, []fs.Fault{{d, fs.Links}, {e, fs.Twice}}},
		odd{"Root, once", func(v *vol.Vol) { dir.Insert(v, x, "r", root) }, []fs.Fault{{root, fs.Links}}},
		odd{"Root, twice", func(v *vol.Vol) { dir.Insert(v, e, "r", root); dir.Insert(v, x, "r", root) }, []fs.Fault{{root, fs.Links}, {x, fs.Twice}}},
		odd{"a file", func(v *vol.Vol) { dir.Insert(v, root, "f2", f) }, []fs.Fault{{f, fs.Links}}},
		odd{"what is free", func(v *vol.Vol) { dir.Insert(v, x, "a", free); dir.Insert(v, x, "b", free) }, []fs.Fault{{x, fs.Dangling}}},
		odd{"what has no links", func(v *vol.Vol) { dir.Insert(v, x, "a", lostDir); dir.Insert(v, e, "b", lostDir) }, []fs.Fault{{x, fs.Twice}, {lostDir, fs.Links}}},
		odd{"ahead by one that has no links", func(v *vol.Vol) { v.Link(d, -1); dir.Insert(v, x, "e2", e) }, []fs.Fault{{d, fs.Links}, {e, fs.Links}}},
		odd{"by one that has no links", func(v *vol.Vol) {
			dir.Start(v, lostDir, root)
			dir.Insert(v, lostDir, "a", e)
			dir.Insert(v, lostDir, "b", e)
		}, []fs.Fault{{e, fs.Links}}},
		odd{"ahead by one that is lost", func(v *vol.Vol) { dir.Remove(v, root, "d"); dir.Insert(v, x, "e2", e) }, []fs.Fault{{d, fs.Links}, {d, fs.Lost}, {d, fs.Parent}, {e, fs.Links}, {x, fs.Twice}}},
		odd{"all at once", func(v *vol.Vol) {
			lay(v, d, entry(f, ".."), entry(e, "e"), entry(f, "h"), entry(free, "a"), entry(e, "b"))
			dir.Remove(v, root, "d")
		}, []fs.Fault{{d, fs.Links}, {d, fs.Lost}, {d, fs.Dangling}, {d, fs.Parent}, {d, fs.Twice}, {e, fs.Links}, {e, fs.Lost}}},
	)
}
