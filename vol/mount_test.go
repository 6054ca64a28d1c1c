package vol_test

import (
	"math/rand"
	"testing"

	"drumlin/api"
	"drumlin/ckpt"
	"drumlin/codec"
	"drumlin/disk"
	"drumlin/geom"
	"drumlin/node"
	"drumlin/slog"
	"drumlin/usage"
	"drumlin/vol"
)

// laid: a volume with a file of all kinds of blocks, behind a checkpoint, and a change behind that.
func laid(t *testing.T) (*disk.Disk, *vol.Vol, int) {
	t.Helper()
	d, v := format(t, small, 4)
	num := made(t, v, make([]byte, 128*12))
	v.Write(num, 128*50, []byte("leaf"))
	if e := v.Checkpoint(); e != api.OK {
		t.Fatalf("P15.3: Checkpoint = %v", e)
	}
	v.Mark(num, 9)
	made(t, v, []byte("other"))
	flush(t, v)
	return d, v, num
}

// refuses: Mount tells this of it, and writes nothing.
func refuses(t *testing.T, d *disk.Disk, what string) {
	t.Helper()
	was := d.Twin()
	if v, e := vol.Mount(d); v != nil || e != api.ErrForm || !d.Same(was) {
		t.Errorf("P15.2: %s: Mount = %v, %v", what, v, e)
	}
}

// P15.2: what isn't as it should be.
func TestMountRefused(t *testing.T) {
	empty, _ := disk.New(9)
	refuses(t, empty, "a disk of noughts")
	d, v, num := laid(t)
	short, _ := disk.New(small.Sectors() - 1)
	for at := range short.Size() {
		s, _ := d.Read(at)
		short.Write(at, s)
	}
	refuses(t, short, "a disk that is too small")
	slot, _ := v.Slot(num)
	inode, _ := d.Read(slot.At)
	x, e := codec.ReadInode(inode)
	if e != api.OK {
		t.Fatalf("no inode where the slot says: %v", e)
	}
	for what, list := range map[string][]int{
		"no superblock":      {0},
		"no checkpoint":      {small.Region(0), small.Region(1)},
		"no map":             {small.Region(0) + 1, small.Region(1) + 1},
		"no inode":           {slot.At},
		"no inode of Root":   {rootAt(t, v)},
		"no checkpoint left": {small.Region(0) + 2, small.Region(1)},
	} {
		twin := d.Twin()
		for _, at := range list {
			twin.Write(at, api.Sector{5: 1})
		}
		refuses(t, twin, what)
	}
	for what, at := range map[string]int{"the single block": x.Single, "the double block": x.Double} {
		twin := d.Twin()
		twin.Write(at, api.Sector{2: 1, 127: 1})
		refuses(t, twin, what)
	}
	// Inodes that are whole, but not as they should be.
	for what, change := range map[string]func(x *codec.Inode){
		"another number":             func(x *codec.Inode) { x.Num++ },
		"another version":            func(x *codec.Inode) { x.Version++ },
		"another kind":               func(x *codec.Inode) { x.Kind = api.Dir },
		"too long":                   func(x *codec.Inode) { x.Size = api.MaxSize + 1 },
		"a sector twice":             func(x *codec.Inode) { x.Direct[0] = x.Direct[1] },
		"a sector of another file":   func(x *codec.Inode) { x.Direct[0] = rootAt(t, v) },
		"the superblock":             func(x *codec.Inode) { x.Direct[0] = 0; x.Direct[1] = small.Region(0) },
		"a summary":                  func(x *codec.Inode) { x.Direct[0] = small.Summary(0, 0) },
		"a clean segment's block":    func(x *codec.Inode) { x.Direct[0] = small.Block(13, 0, 0) },
		"a block that comes next":    func(x *codec.Inode) { x.Direct[0] = small.Block(next(t, d).Seg, small.Groups-1, 7) },
		"a block of the next one":    func(x *codec.Inode) { x.Direct[0] = small.Block(next(t, d).Next, 0, 0) },
		"pointers without any block": func(x *codec.Inode) { x.Single = x.Direct[0]; x.Direct[0] = 0 },
	} {
		bad := x
		change(&bad)
		s, e := codec.WriteInode(bad)
		if e != api.OK {
			t.Fatalf("%s: %v", what, e)
		}
		twin := d.Twin()
		twin.Write(slot.At, s)
		refuses(t, twin, what)
	}
}

// next: where the log goes on.
func next(t *testing.T, d *disk.Disk) slog.Place {
	t.Helper()
	s, _ := ckpt.Read(d, small)
	_, end, e := slog.Scan(d, small, s.Place)
	if e != api.OK {
		t.Fatalf("no log: %v", e)
	}
	return end
}

func rootAt(t *testing.T, v *vol.Vol) int {
	t.Helper()
	slot, e := v.Slot(api.Root)
	if e != api.OK {
		t.Fatalf("no Root: %v", e)
	}
	return slot.At
}

// P15.2: slots that aren't as they should be; without a directory Root there is no volume.
func TestMountSlots(t *testing.T) {
	d, v, num := laid(t)
	v.Checkpoint()
	slot, _ := v.Slot(num)
	root, _ := v.Slot(api.Root)
	good := func(num int, s codec.Slot, want api.Errno, what string) {
		t.Helper()
		twin := d.Twin()
		state, e := ckpt.Read(twin, small)
		if e != api.OK {
			t.Fatalf("no checkpoint: %v", e)
		}
		state.Serial++
		state.Map.Set(num, s)
		ckpt.Write(twin, small, state)
		if w, e := vol.Mount(twin); e != want || (w == nil) != (e != api.OK) {
			t.Errorf("P15.2: %s: Mount = %v; want %v", what, e, want)
		}
	}
	good(num, slot, api.OK, "the same")
	good(num, codec.Slot{}, api.OK, "a file less")
	good(num, codec.Slot{Kind: api.File}, api.OK, "without links, and without an inode")
	good(num, codec.Slot{At: slot.At, Version: slot.Version, Links: 100, Kind: api.File}, api.OK, "more links")
	good(num, codec.Slot{Version: slot.Version, Links: 1, Kind: api.File}, api.ErrForm, "without an inode")
	good(num, codec.Slot{At: slot.At, Version: 9, Links: 1, Kind: api.File}, api.ErrForm, "another version")
	good(num, codec.Slot{At: slot.At, Version: slot.Version, Links: 1, Kind: api.Dir}, api.ErrForm, "another kind")
	good(num, codec.Slot{At: root.At, Version: 1, Links: 1, Kind: api.Dir}, api.ErrForm, "another file's inode")
	good(api.Root, codec.Slot{Version: 1}, api.ErrForm, "no Root")
	root.Links = 0
	good(api.Root, root, api.ErrForm, "a Root without links")
	slot, _ = v.Slot(num)
	v.Link(api.Root, -1)
	flush(t, v)
	refuses(t, d, "a Root that has lost its link")
}

// P15.2: a volume to which others than these calls gave a file: it is mounted, unless it costs more than there is room for.
func TestMountForeign(t *testing.T) {
	for blocks, want := range map[int]api.Errno{20: api.OK, 43: api.OK, 44: api.ErrForm, 60: api.ErrForm} {
		d, _ := format(t, small, 1)
		s, e := ckpt.Read(d, small)
		if e != api.OK {
			t.Fatalf("no checkpoint: %v", e)
		}
		n := node.New(5, 8, api.File)
		n.Write(0, make([]byte, 128*min(blocks, 40)), nil)
		n.Write(128*100, make([]byte, 128*(blocks-min(blocks, 40))), nil)
		free := []int{7, 5, 3, 2, 9}
		l, e := slog.Plan(small, s.Place, free, len(n.Pending()))
		if e != api.OK {
			t.Fatalf("no room: %v", e)
		}
		items, _, _ := n.Commit(l.At...)
		slog.Append(d, small, s.Place, free, 2, items...)
		s.Map.Set(5, codec.Slot{At: l.At[len(l.At)-1], Version: 8, Links: 1, Kind: api.File})
		for _, seg := range []int{0, 1, 7, 5, 3, 2, 9} {
			s.Table.Set(seg, usage.Dirty)
		}
		s.Table.Set(l.End.Seg, usage.Open)
		s.Table.Set(l.End.Next, usage.Open)
		s.Serial++
		s.Place = l.End
		ckpt.Write(d, small, s)
		v, e := vol.Mount(d)
		if cost := n.Cost() + 1; e != want || (cost > small.Room()) != (want != api.OK) {
			t.Fatalf("P15.2: Mount of what costs %d = %v; want %v", cost, e, want)
		}
		if e == api.OK && (v.Cost() != n.Cost()+1 || v.Live() != v.Cost()) {
			t.Errorf("P15.4: Cost %d, Live %d", v.Cost(), v.Live())
		}
	}
}

// P1, P15.2: whatever stands in the sectors, Mount answers a volume, or an error, and all calls of what it answers end.
func TestMountAny(t *testing.T) {
	d, _, _ := laid(t)
	r := rand.New(rand.NewSource(1))
	for range 600 {
		twin := d.Twin()
		for range 1 + r.Intn(3) {
			at := r.Intn(small.Sectors())
			s, _ := twin.Read(at)
			switch r.Intn(4) {
			case 0:
				s, _ = twin.Read(r.Intn(small.Sectors()))
			case 1:
				s[r.Intn(128)] = byte(r.Intn(256))
			case 2:
				s, _ = codec.WritePointers([32]int{r.Intn(small.Sectors()), r.Intn(65536)})
			case 3:
				r.Read(s[:])
			}
			twin.Write(at, s)
		}
		v, e := vol.Mount(twin)
		if e != api.OK {
			if v != nil || e != api.ErrForm && e != api.ErrInval {
				t.Fatalf("P15.2: Mount = %v, %v", v, e)
			}
			continue
		}
		for _, num := range v.Used() {
			v.Read(num, 0, api.MaxSize)
			v.Write(num, 1000, []byte("any"))
		}
		v.Flush()
		v.Clean()
		v.Checkpoint()
		if v.Live() != v.Cost() {
			t.Fatalf("P15.4: Live %d, Cost %d", v.Live(), v.Cost())
		}
	}
}

// P1, P15.3: a log of which nearly all segments are said to be in use still answers.
func TestCrowded(t *testing.T) {
	d, v, num := laid(t)
	v.Checkpoint()
	state, _ := ckpt.Read(d, small)
	state.Serial++
	for seg, x := range state.Table.Uses() {
		if x.State == usage.Clean {
			state.Table.Set(seg, usage.Held)
		}
	}
	ckpt.Write(d, small, state)
	v, e := vol.Mount(d)
	if e != api.OK {
		t.Fatalf("P15.2: Mount = %v", e)
	}
	for range 20 {
		v.Write(num, 0, make([]byte, 1500))
		if e := v.Flush(); e != api.OK && e != api.ErrNospc {
			t.Errorf("P15.3: Flush = %v", e)
		}
		v.Clean()
	}
	if b, e := v.Read(num, 128*50, 4); string(b) != "leaf" || e != api.OK {
		t.Errorf("P15.1: Read = %q, %v", b, e)
	}
}

// P15.5: on a disk that has more than the geometry nothing else is ever written.
func TestNothingElse(t *testing.T) {
	g := geom.Geom{Segs: 10, Groups: 1, Inodes: 3}
	d, _ := disk.New(g.Sectors() + 20)
	mark := api.Sector{9, 9}
	for at := g.Sectors(); at < d.Size(); at++ {
		d.Write(at, mark)
	}
	d.Flush()
	v, e := vol.Format(d, g, 1)
	if e != api.OK {
		t.Fatalf("P15.1: Format = %v", e)
	}
	num := made(t, v, nil)
	for i := range 100 {
		v.Write(num, 0, make([]byte, 128*(1+i%4)))
		if i%7 == 0 {
			v.Checkpoint()
		}
		flush(t, v)
		v.Clean()
	}
	for at := g.Sectors(); at < d.Size(); at++ {
		if s, _ := d.Read(at); s != mark {
			t.Errorf("P15.5: sector %d was written", at)
		}
	}
	if super, _ := d.Read(0); super != g.Super() {
		t.Errorf("P15.5: the superblock was written")
	}
	if w := mounts(t, d); w.Geom() != g || w.Cost() != v.Cost() {
		t.Errorf("P15.2: Mount = %v", w.Geom())
	}
}
