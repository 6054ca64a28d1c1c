package fs_test

import (
	"fmt"
	"math/rand"
	"slices"
	"testing"

	"drumlin/api"
	"drumlin/dirent"
	"drumlin/fs"
	"drumlin/tree"
	"drumlin/vol"
)

// inode is one of a world: what it is is written into a volume, and told of by the document's words.
type inode struct {
	kind, links int
	junk        bool
	entries     []dirent.Entry
	data        string
}

// world: inodes by number.
type world map[int]*inode

const inodes = 12

// someWorld: any numbers, names and links; seldom what is free, or junk.
func someWorld(r *rand.Rand) world {
	w := world{}
	for num := 1; num <= 8; num++ {
		x := &inode{kind: api.File, links: r.Intn(3), junk: r.Intn(25) == 0, data: fmt.Sprint("data of ", num)}
		if num == 1 || r.Intn(3) > 0 {
			x.kind = api.Dir
		} else if r.Intn(4) == 0 {
			continue
		}
		w[num] = x
	}
	for _, num := range w.nums() {
		if r.Intn(9) > 0 {
			w.name(r, num, "..", 1+r.Intn(4))
		}
		for range r.Intn(4) {
			w.name(r, num, []string{"a", "b", "c", ".", ".."}[r.Intn(5)], 1+r.Intn(8))
		}
		if r.Intn(12) == 0 {
			w.name(r, num, "d", 1+r.Intn(200))
		}
		r.Shuffle(len(w[num].entries), func(i, k int) {
			list := w[num].entries
			list[i], list[k] = list[k], list[i]
		})
	}
	for _, num := range w.nums() {
		if r.Intn(3) > 0 {
			w[num].links = w.count(num)
		}
	}
	return w
}

// name: an entry more. Most of those that should be made good are.
func (w world) name(r *rand.Rand, num int, name string, target int) {
	if w[num].kind != api.Dir || w[target] == nil && r.Intn(8) > 0 {
		return
	}
	w[num].entries = append(w[num].entries, entry(target, name))
	if y := w[target]; y != nil && name != ".." && r.Intn(2) == 0 {
		y.links = w.count(target)
		if y.kind == api.Dir {
			y.entries = slices.DeleteFunc(y.entries, func(z dirent.Entry) bool { return z.Name == ".." })
			y.entries = append(y.entries, entry(num, ".."))
		}
	}
}

// nums: those that aren't free, rising.
func (w world) nums() []int {
	var list []int
	for num := range inodes + 1 {
		if w[num] != nil {
			list = append(list, num)
		}
	}
	return list
}

// laid: a volume that is like it.
func (w world) laid(t *testing.T) *tree.Tree {
	t.Helper()
	g := small
	g.Inodes = inodes
	_, y := format(t, g)
	v := y.Vol()
	for num := 2; num <= 8; num++ {
		kind := api.File
		if w[num] != nil {
			kind = w[num].kind
		}
		v.New(kind)
	}
	v.Link(root, -1)
	for num := 1; num <= 8; num++ {
		x := w[num]
		if x == nil {
			v.Delete(num)
			continue
		}
		v.Link(num, x.links)
		switch {
		case x.kind == api.File:
			v.Write(num, 0, []byte(x.data))
		case x.junk:
			v.Truncate(num, 0)
			v.Write(num, 0, []byte("junk"))
		default:
			lay(v, num, x.entries...)
		}
	}
	return y
}

// read: the entries of a directory whose bytes are one's; of all else none.
func (w world) read(num int) []dirent.Entry {
	if x := w[num]; x != nil && x.kind == api.Dir && !x.junk {
		return x.entries
	}
	return nil
}

// count: how many links a number should have.
func (w world) count(num int) int {
	n := 0
	if num == 1 {
		n = 1
	}
	for k := range w {
		for _, x := range w.read(k) {
			if x.Name != ".." && x.Num == num {
				n++
			}
		}
	}
	return n
}

// dumper: a Dump by the document's words, item by item.
type dumper struct {
	w     world
	items []fs.Item
	nums  []int // of the items
}

func (d *dumper) dump(num int, path string, way ...int) api.Errno {
	x := d.w[num]
	switch {
	case num > inodes:
		return api.ErrInval
	case x == nil:
		return api.ErrNoent
	case x.kind == api.File || slices.Contains(way, num):
		return api.OK
	case x.junk:
		return api.ErrForm
	}
	var names []string
	for _, y := range x.entries {
		if y.Name != ".." && !slices.Contains(names, y.Name) {
			names = append(names, y.Name)
		}
	}
	slices.Sort(names)
	for _, name := range names {
		for _, y := range x.entries {
			if y.Name != name {
				continue
			}
			item := fs.Item{Path: path + "/" + name}
			if z := d.w[y.Num]; z != nil {
				item.Kind = z.kind
				if first := slices.Index(d.nums, y.Num); z.kind == api.File && first >= 0 {
					item.Link = d.items[first].Path
				} else if z.kind == api.File {
					item.Data = []byte(z.data)
				}
			}
			d.items, d.nums = append(d.items, item), append(d.nums, y.Num)
			if e := d.dump(y.Num, item.Path, append(slices.Clone(way), num)...); e != api.OK {
				return e
			}
		}
	}
	return api.OK
}

// led: does Root lead to a number in so many steps, or fewer?
func (w world) led(num, steps int) bool {
	if num == 1 || steps == 0 {
		return num == 1
	}
	for k := range w {
		for _, x := range w.read(k) {
			if x.Name != ".." && x.Num == num && w.led(k, steps-1) {
				return true
			}
		}
	}
	return false
}

// lost, dangling, parent and twice, of a directory with links whose bytes are one's, by the document's words.
func (w world) lost(num int) bool {
	return !w.led(num, 8) || !slices.ContainsFunc(w.read(num), func(x dirent.Entry) bool { return x.Name == ".." })
}

func (w world) dangling(num int) bool {
	return slices.ContainsFunc(w.read(num), func(x dirent.Entry) bool { return x.Name != ".." && w[x.Num] == nil })
}

func (w world) parent(num int) bool {
	i := slices.IndexFunc(w.read(num), func(x dirent.Entry) bool { return x.Name == ".." })
	if i < 0 {
		return false
	}
	above := w.read(num)[i].Num
	if num == 1 {
		return above != 1
	}
	return !slices.ContainsFunc(w.read(above), func(x dirent.Entry) bool { return x.Name != ".." && x.Num == num })
}

func (w world) twice(num int) bool {
	for i, x := range w.read(num) {
		if x.Name == ".." || w[x.Num] == nil || w[x.Num].kind != api.Dir {
			continue
		}
		already := func(y dirent.Entry) bool { return y.Name != ".." && y.Num == x.Num }
		if slices.ContainsFunc(w.read(num)[:i], already) {
			return true
		}
		for k := range num {
			if w[k] != nil && w[k].links > 0 && slices.ContainsFunc(w.read(k), already) {
				return true
			}
		}
	}
	return false
}

// faults: a Check by the document's words.
func (w world) faults() []fs.Fault {
	var list []fs.Fault
	for _, num := range w.nums() {
		x := w[num]
		dir := x.kind == api.Dir && x.links > 0
		whole := dir && !x.junk
		for what, so := range []bool{false, x.links != w.count(num), whole && w.lost(num), whole && w.dangling(num), dir && x.junk, whole && w.parent(num), whole && w.twice(num)} {
			if so {
				list = append(list, fs.Fault{Num: num, What: what})
			}
		}
	}
	return list
}

// P19.1, P19.5: volumes of any numbers, names and links.
func TestAny(t *testing.T) {
	r := rand.New(rand.NewSource(195))
	met := map[string]int{}
	for range 4000 {
		w := someWorld(r)
		y := w.laid(t)
		d := dumper{w: w}
		want := d.dump(1, "")
		if want != api.OK {
			d.items = nil
		}
		got, e := fs.Dump(y)
		if e != want || !fs.Same(got, d.items) {
			t.Fatalf("P19.1: Dump = %q, %v; want %q, %v", texts(got), e, texts(d.items), want)
		}
		met[fmt.Sprint("error ", e)]++
		faults := fs.Check(y)
		if !slices.Equal(faults, w.faults()) {
			t.Fatalf("P19.5: Check = %v; want %v", faults, w.faults())
		}
		for _, x := range faults {
			met[fmt.Sprint("fault ", x.What)]++
		}
		met[fmt.Sprint(len(faults), " faults")]++
	}
	for _, what := range []string{"error 0", "error 1", "error 4", "error 21", "fault 1", "fault 2", "fault 3", "fault 4", "fault 5", "fault 6", "1 faults", "9 faults"} {
		if met[what] < 10 {
			t.Errorf("P19.5: %q was met %d times: the test is in vain", what, met[what])
		}
	}
}

// somePath: one of few.
func somePath(r *rand.Rand) string {
	path := ""
	for range 1 + r.Intn(3) {
		path += "/" + []string{"a", "b", "c", "d", ".."}[r.Intn(5)]
	}
	return path
}

// act: something that tree does.
func act(r *rand.Rand, y *tree.Tree) {
	path, num := somePath(r), 1+r.Intn(20)
	switch r.Intn(11) {
	case 0, 1, 2:
		y.Make(root, path, api.Dir)
	case 3, 4:
		n, _ := y.Make(root, path, api.File)
		y.Write(n, r.Intn(200), []byte(path))
	case 5:
		y.Link(root, path, somePath(r))
	case 6:
		y.Rename(root, path, somePath(r))
	case 7:
		y.Unlink(root, path)
	case 8:
		y.Rmdir(root, path)
	case 9:
		y.Hold(num)
	case 10:
		y.Drop(num)
	}
}

// P19.2, P19.3, P19.4: what tree makes is whole, and is made again of its Dump; flushes, checkpoints and cleaning change nothing of that.
func TestTrees(t *testing.T) {
	sizes := map[int]int{}
	for seed := range 12 {
		r := rand.New(rand.NewSource(int64(seed)))
		dd, y := format(t, small)
		for range 300 {
			act(r, y)
			if faults := fs.Check(y); len(faults) > 0 {
				t.Fatalf("P19.4: Check = %v", faults)
			}
			if r.Intn(15) > 0 {
				continue
			}
			list, e := fs.Dump(y)
			if e != api.OK {
				t.Fatalf("P19.1: Dump = %v", e)
			}
			sizes[len(list)]++
			v := y.Vol()
			[]func(){func() { v.Flush() }, func() { v.Checkpoint() }, func() { v.Clean() }}[r.Intn(3)]()
			dumped(t, y, "flushed", list...)
			if r.Intn(3) == 0 {
				again(t, list)
			}
			if r.Intn(3) == 0 {
				v.Flush()
				dd.Crash()
				y, e = tree.Mount(dd)
				if e != api.OK {
					t.Fatalf("P19.1: Mount = %v", e)
				}
				dumped(t, y, "mounted", list...)
			}
		}
	}
	if len(sizes) < 8 {
		t.Errorf("P19.2: sizes %v: the test is in vain", sizes)
	}
}

// P1: no call panics, whatever a volume is.
func TestNoPanic(t *testing.T) {
	items := []fs.Item{{}, {Kind: -1}, {Path: "/"}, {Path: "\xff", Link: "\xff"}, {Path: "/a", Kind: 1 << 40, Data: []byte{1}}}
	for i := range items {
		_, y := grown(t)
		fs.Restore(y, items[i:]...)
		fs.Pack(items[i:]...)
		fs.Same(items[i:], items)
	}
	r := rand.New(rand.NewSource(1))
	for range 300 {
		_, y := grown(t)
		for range 4 {
			b := make([]byte, r.Intn(300))
			for i := range b {
				b[i] = byte(r.Intn(4))
			}
			num := 1 + r.Intn(7)
			y.Vol().Write(num, r.Intn(200), b)
			mess(r, y.Vol())
		}
		fs.Check(y)
		fs.Dump(y)
		fs.Restore(y, dirItem("/a"), fileItem("/a/f", "x"), linkItem("/l", "/a/f"))
	}
}

// mess: something else that may be wrong with a volume.
func mess(r *rand.Rand, v *vol.Vol) {
	num := 1 + r.Intn(9)
	switch r.Intn(4) {
	case 0:
		v.Delete(num)
	case 1:
		v.New(1 + r.Intn(2))
	case 2:
		v.Link(num, r.Intn(5)-2)
	case 3:
		v.Truncate(num, r.Intn(4)*64)
	}
}
