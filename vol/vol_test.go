package vol_test

import (
	"bytes"
	"math"
	"slices"
	"testing"

	"drumlin/api"
	"drumlin/ckpt"
	"drumlin/codec"
	"drumlin/disk"
	"drumlin/geom"
	"drumlin/usage"
	"drumlin/vol"
)

// ends are numbers at the edges of what there is, and far off.
var ends = []int{math.MinInt, -1 << 32, -1, 0, 1, 2, 3, 4, 10, 11, 200, 201, api.MaxSize - 1, api.MaxSize, api.MaxSize + 1, 1 << 32, math.MaxInt}

var small = geom.Geom{Segs: 14, Groups: 2, Inodes: 10}

// format: a new volume, on a disk of its own.
func format(t *testing.T, g geom.Geom, time uint32) (*disk.Disk, *vol.Vol) {
	t.Helper()
	d, e := disk.New(g.Sectors())
	if e != api.OK {
		t.Fatalf("no disk of %v: %v", g, e)
	}
	v, e := vol.Format(d, g, time)
	if e != api.OK {
		t.Fatalf("P15.1: Format(%v) = %v", g, e)
	}
	return d, v
}

// made: a file with one link, and these bytes.
func made(t *testing.T, v *vol.Vol, b []byte) int {
	t.Helper()
	num, e := v.New(api.File)
	if e != api.OK || v.Write(num, 0, b) != api.OK {
		t.Fatalf("P15.1: New = %d, %v", num, e)
	}
	if n, e := v.Link(num, 1); n != 1 || e != api.OK {
		t.Fatalf("P15.1: Link(%d, 1) = %d, %v", num, n, e)
	}
	return num
}

func flush(t *testing.T, v *vol.Vol) {
	t.Helper()
	if e := v.Flush(); e != api.OK {
		t.Fatalf("P15.3: Flush with a cost of %d = %v", v.Cost(), e)
	}
}

// mounts: what lies on a disk if it crashes now, with nothing kept.
func mounts(t *testing.T, d *disk.Disk) *vol.Vol {
	t.Helper()
	twin := d.Twin()
	twin.Crash()
	v, e := vol.Mount(twin)
	if e != api.OK {
		t.Fatalf("P15.2: Mount = %v", e)
	}
	return v
}

// P15.1, P15.2: the document's example.
func TestExample(t *testing.T) {
	d, v := format(t, small, 0)
	n, e := v.New(api.File)
	if n != 2 || e != api.OK || v.Write(2, 0, []byte("hi")) != api.OK {
		t.Errorf("P15.1: New = %d, %v", n, e)
	}
	if used := mounts(t, d).Used(); !slices.Equal(used, []int{1}) {
		t.Errorf("P15.2: Used = %v", used)
	}
	flush(t, v)
	if b, e := mounts(t, d).Read(2, 0, 9); b != nil || e != api.ErrNoent {
		t.Errorf("P15.2: Read of what has no links = %q, %v", b, e)
	}
	if b, e := v.Read(2, 0, 9); string(b) != "hi" || e != api.OK {
		t.Errorf("P15.1: Read = %q, %v", b, e)
	}
	v.Link(2, 1)
	flush(t, v)
	if b, e := mounts(t, d).Read(2, 0, 9); string(b) != "hi" || e != api.OK {
		t.Errorf("P15.2: Read = %q, %v", b, e)
	}
}

// P15.1, P15.5: of a disk that has other things on it all that the geometry has is noughts, but what the new volume needs; all behind it stays.
func TestFormat(t *testing.T) {
	d, _ := disk.New(small.Sectors() + 5)
	old := api.Sector{1, 2, 3}
	for at := range d.Size() {
		d.Write(at, old)
	}
	d.Flush()
	v, e := vol.Format(d, small, 7)
	if e != api.OK || v.Geom() != small || v.Time() != 7 || v.Cost() != 1 || v.Live() != 1 || len(d.Queue()) != 0 {
		t.Fatalf("P15.1: Format = %v", e)
	}
	slot, e := v.Slot(api.Root)
	slot.At = 0
	size, _ := v.Size(api.Root)
	time, _ := v.Marked(api.Root)
	if e != api.OK || slot != (codec.Slot{Version: 1, Links: 1, Kind: api.Dir}) || size != 0 || time != 0 || !slices.Equal(v.Used(), []int{1}) {
		t.Errorf("P15.1: Root = %v, %v", slot, e)
	}
	if x, e := ckpt.Regions(d, small); e != api.OK || max(x[0], x[1]) != 1 {
		t.Errorf("P15.1: checkpoints %v", x)
	}
	filled := 0
	for at := range d.Size() {
		s, _ := d.Read(at)
		if at >= small.Sectors() && s != old || at < small.Sectors() && s == old {
			t.Errorf("P15.5: sector %d is %v", at, s[:4])
		}
		if at < small.Sectors() && s != (api.Sector{}) {
			filled++
		}
	}
	if s, _ := d.Read(0); s != small.Super() || filled != 1+3+3 { // a region of three, a summary, records, an inode
		t.Errorf("P15.5: %d sectors aren't noughts", filled)
	}
	is(t, mounts(t, d), newImage(small.Inodes), "Format")
}

// P1, P15.1: what Format refuses; a refused one writes nothing.
func TestFormatRefused(t *testing.T) {
	d, _ := disk.New(small.Sectors() - 1)
	was := d.Twin()
	for _, g := range []geom.Geom{{}, {Segs: -1, Groups: -1, Inodes: -1}, {Segs: 7, Groups: 32, Inodes: 2}, {Segs: 201, Groups: 1, Inodes: 2}, {Segs: 20, Groups: 0, Inodes: 2}, {Segs: 20, Groups: 1, Inodes: 201}, {Segs: math.MaxInt, Groups: math.MaxInt, Inodes: math.MinInt}, small} {
		d.Arm(0)
		if v, e := vol.Format(d, g, 1); v != nil || e != api.ErrInval {
			t.Errorf("P15.1: Format(%v) = %v, %v", g, v, e)
		}
		d.Arm(-1)
	}
	if !d.Same(was) {
		t.Errorf("P15.1: a Format that is refused wrote something")
	}
	d, _ = disk.New(small.Sectors())
	deeds := 0
	for ; ; deeds += 13 {
		twin := d.Twin()
		twin.Arm(deeds)
		v, e := vol.Format(twin, small, 1)
		if e == api.OK {
			break
		}
		if v != nil || e != api.ErrIo {
			t.Fatalf("P15.1: Format of a dead disk = %v, %v", v, e)
		}
	}
	if deeds < small.Sectors() {
		t.Errorf("P15.5: Format does %d deeds", deeds)
	}
	d.Arm(0)
	d.Flush()
	if v, e := vol.Format(d, geom.Geom{}, 1); v != nil || e != api.ErrInval {
		t.Errorf("P15.1: Format of a dead disk, of no geometry = %v, %v", v, e)
	}
}

// P15.2: a disk that dies in a Format of it has the volume that it had, if nothing was done yet, no volume, or the new one; never one of which something is gone.
func TestFormatDies(t *testing.T) {
	g := geom.Geom{Segs: 10, Groups: 1, Inodes: 3}
	d, v := format(t, g, 1)
	b := bytes.Repeat([]byte("old"), 200)
	num := made(t, v, b)
	v.Checkpoint()
	fresh := newImage(g.Inodes)
	old := fresh.copy()
	old.alloc(api.File)
	old.slots[num-1].Links = 1
	old.files[num].write(0, b)
	for deeds := range 2 * g.Sectors() {
		for few := range 4 {
			twin := d.Twin()
			twin.Arm(deeds)
			if _, e := vol.Format(twin, g, 1); e == api.OK {
				return
			}
			keep := make([]bool, len(twin.Queue()))
			for i := range keep {
				keep[i] = few == 1 || few == 2 && i%2 == 1 || few == 3 && i == len(keep)-1
			}
			twin.Crash(keep...)
			w, e := vol.Mount(twin)
			if e == api.OK && differs(w, fresh) != nil && differs(w, old) != nil || e != api.OK && e != api.ErrForm {
				t.Fatalf("P15.2: behind %d deeds of a Format: Mount = %v", deeds, e)
			}
		}
	}
	t.Errorf("P1: Format doesn't end")
}

// P1, P15.1: the errors of the number are told ahead of all others; what is refused changes nothing.
func TestErrors(t *testing.T) {
	_, v := format(t, small, 1)
	num := made(t, v, []byte("abc"))
	now := newImage(small.Inodes)
	now.alloc(api.File)
	now.slots[num-1].Links = 1
	now.files[num].write(0, []byte("abc"))
	for _, n := range ends {
		want := api.ErrNoent
		if n < 1 || n > small.Inodes {
			want = api.ErrInval
		}
		if n == api.Root || n == num {
			continue
		}
		for _, at := range ends {
			if e := v.Write(n, at, []byte("x")); e != want {
				t.Errorf("P15.1: Write(%d, %d) = %v; want %v", n, at, e, want)
			}
			if e := v.Truncate(n, at); e != want {
				t.Errorf("P15.1: Truncate(%d, %d) = %v; want %v", n, at, e, want)
			}
			if b, e := v.Read(n, at, at); b != nil || e != want {
				t.Errorf("P15.1: Read(%d, %d) = %v, %v; want %v", n, at, b, e, want)
			}
			if k, e := v.Link(n, at); k != 0 || e != want {
				t.Errorf("P15.1: Link(%d, %d) = %d, %v; want %v", n, at, k, e, want)
			}
		}
		if k, e := v.Size(n); k != 0 || e != want {
			t.Errorf("P15.1: Size(%d) = %d, %v; want %v", n, k, e, want)
		}
		if k, e := v.Marked(n); k != 0 || e != want {
			t.Errorf("P15.1: Marked(%d) = %d, %v; want %v", n, k, e, want)
		}
		if e := v.Mark(n, 3); e != want {
			t.Errorf("P15.1: Mark(%d) = %v; want %v", n, e, want)
		}
		if l, e := v.Indexes(n); l != nil || e != want {
			t.Errorf("P15.1: Indexes(%d) = %v, %v; want %v", n, l, e, want)
		}
		if e := v.Delete(n); e != want {
			t.Errorf("P15.1: Delete(%d) = %v; want %v", n, e, want)
		}
		if s, e := v.Slot(n); s != (codec.Slot{}) || (e == api.ErrInval) != (want == api.ErrInval) {
			t.Errorf("P15.1: Slot(%d) = %v, %v", n, s, e)
		}
	}
	for _, at := range ends {
		if e := v.Write(num, at, nil); at < 0 && e != api.ErrInval || at > api.MaxSize && e != api.ErrFbig || at >= 0 && at <= api.MaxSize && e != api.OK {
			t.Errorf("P15.1: Write(%d, %d) = %v", num, at, e)
		}
		if at < 0 || at > api.MaxSize {
			if e := v.Truncate(num, at); at < 0 && e != api.ErrInval || at > 0 && e != api.ErrFbig {
				t.Errorf("P15.1: Truncate(%d, %d) = %v", num, at, e)
			}
		}
		if b, e := v.Read(num, at, at); at < 0 && (b != nil || e != api.ErrInval) || at > 3 && (len(b) != 0 || e != api.OK) {
			t.Errorf("P15.1: Read(%d, %d) = %v, %v", num, at, b, e)
		}
		if k, e := v.Link(num, at); (at < -1 || at > 99) && (k != 0 || e != api.ErrMlink) {
			t.Errorf("P15.1: Link(%d, %d) = %d, %v", num, at, k, e)
		} else if e == api.OK {
			v.Link(num, -at)
		}
		if n, e := v.New(at); at != api.File && at != api.Dir && (n != 0 || e != api.ErrInval) {
			t.Errorf("P15.1: New(%d) = %d, %v", at, n, e)
		} else if e == api.OK {
			now.alloc(at)
			now.release(n)
			v.Delete(n)
		}
	}
	if e := v.Delete(api.Root); e != api.ErrBusy {
		t.Errorf("P15.1: Delete of Root = %v", e)
	}
	is(t, v, now, "errors")
	for range small.Inodes - 2 {
		v.New(api.File)
	}
	if n, e := v.New(api.Dir); n != 0 || e != api.ErrNospc {
		t.Errorf("P15.1: New where none is free = %d, %v", n, e)
	}
	if n, e := v.New(3); n != 0 || e != api.ErrInval {
		t.Errorf("P15.1: New(3) where none is free = %d, %v", n, e)
	}
}

// P15.1: the time never falls; what is mounted has one that was written with a flush, not one that wasn't.
func TestTime(t *testing.T) {
	d, v := format(t, small, 5)
	for _, x := range [][2]uint32{{3, 5}, {5, 5}, {9, 9}, {8, 9}, {math.MaxUint32, math.MaxUint32}, {0, math.MaxUint32}} {
		v.SetTime(x[0])
		if v.Time() != x[1] {
			t.Errorf("P15.1: SetTime(%d): Time = %d", x[0], v.Time())
		}
	}
	v.Flush()
	v.Checkpoint()
	if time := mounts(t, d).Time(); time != 5 {
		t.Errorf("P15.1: mounted: Time = %d, but none but 5 was written with a flush", time)
	}
	num := made(t, v, nil)
	flush(t, v)
	if w := mounts(t, d); w.Time() != 5 && w.Time() != math.MaxUint32 {
		t.Errorf("P15.1: mounted: Time = %d", w.Time())
	}
	if time, _ := v.Marked(num); time != 0 {
		t.Errorf("P15.1: a new file has the time %d", time)
	}
}

// P15.1: nothing is written, if nothing changed.
func TestNothingChanged(t *testing.T) {
	d, v := format(t, small, 5)
	num := made(t, v, []byte("abc"))
	other, _ := v.New(api.File) // without links
	flush(t, v)
	idle := func(v *vol.Vol, d *disk.Disk, what string) {
		t.Helper()
		was := d.Deeds()
		d.Arm(0)
		if e := v.Flush(); e != api.OK || d.Deeds() != was || d.Dead() {
			t.Errorf("P15.1: %s: Flush = %v, %d deeds", what, e, d.Deeds()-was)
		}
		d.Arm(-1)
	}
	idle(v, d, "Flush")
	v.SetTime(99)
	v.Link(num, 1)
	v.Link(num, -1)
	v.Mark(num, 0)
	v.Write(num, 1, nil)
	v.Truncate(num, 3)
	v.Checkpoint()
	idle(v, d, "Checkpoint")
	twin := d.Twin()
	w, _ := vol.Mount(twin)
	idle(w, twin, "Mount")
	for what, do := range map[string]func(){
		"Link":     func() { v.Link(num, 1) },
		"Write":    func() { v.Write(num, 0, []byte("a")) },
		"Truncate": func() { v.Truncate(num, 2) },
		"Mark":     func() { v.Mark(num, 1) },
		"Delete":   func() { v.Delete(other) },
	} {
		do()
		was := d.Deeds()
		if e := v.Flush(); e != api.OK || d.Deeds() == was {
			t.Errorf("P15.1: %s: Flush = %v, %d deeds", what, e, d.Deeds()-was)
		}
	}
	was := d.Deeds()
	if e := v.Checkpoint(); e != api.OK || d.Deeds() == was {
		t.Errorf("P15.1: Checkpoint = %v", e)
	}
}

// P15.1, P15.2: either of two checkpoints of the same is enough; a number's Version, and a slot's Links and Kind, are flushed, too.
func TestRegions(t *testing.T) {
	d, v := format(t, small, 5)
	made(t, v, make([]byte, 3000))
	n, _ := v.New(api.Dir)
	v.Link(n, 7)
	gone, _ := v.New(api.File)
	flush(t, v)
	v.Delete(gone)
	v.Checkpoint()
	v.Checkpoint()
	if x, e := ckpt.Regions(d, small); x != [2]uint64{2, 3} || e != api.OK {
		t.Fatalf("P15.1: checkpoints %v, %v", x, e)
	}
	for i := range 3 {
		twin := d.Twin()
		if i < 2 {
			twin.Write(small.Region(i), api.Sector{})
		}
		w, e := vol.Mount(twin)
		if e != api.OK || !slices.Equal(w.Used(), []int{1, 2, 3}) || w.Live() != v.Live() {
			t.Fatalf("P15.2: without region %d: Mount = %v", i, e)
		}
		if s, e := w.Slot(n); e != api.OK || s.Links != 7 || s.Kind != api.Dir || s.Version != 1 {
			t.Errorf("P15.2: Slot = %v, %v", s, e)
		}
		if s, e := w.Slot(gone); e != api.OK || s != (codec.Slot{Version: 1}) {
			t.Errorf("P15.2: Slot of what is gone = %v, %v", s, e)
		}
	}
}

// P15.1: a batch goes over the segments that are Clean, in their order.
func TestGoesOver(t *testing.T) {
	d, v := format(t, small, 5)
	num := made(t, v, nil)
	for i := range 12 {
		was := v.Uses()
		serial, _ := ckpt.Regions(d, small)
		v.Write(num, 0, make([]byte, 128*(1+5*(i%3))))
		flush(t, v)
		if now, _ := ckpt.Regions(d, small); now != serial {
			t.Fatalf("a checkpoint was written, where there was room")
		}
		taken := false
		for seg := len(was) - 1; seg >= 0; seg-- {
			is := v.Uses()[seg].State
			if was[seg].State != usage.Clean {
				continue
			}
			if is == usage.Clean && taken {
				t.Errorf("P15.1: segment %d is still clean: %v behind %v", seg, v.Uses(), was)
			}
			taken = taken || is != usage.Clean
		}
	}
}

// filled: a file with as many blocks as there is room for, and others without any for the rest; and its size.
func filled(t *testing.T, v *vol.Vol) (num, size int) {
	t.Helper()
	num = made(t, v, nil)
	room := v.Geom().Room()
	for v.Cost() < room {
		v.Write(num, size, make([]byte, 128))
		size += 128
	}
	for v.Cost() > room {
		size -= 128
		v.Truncate(num, size)
	}
	for v.Cost() < room && len(v.Used()) < v.Geom().Inodes {
		made(t, v, nil)
	}
	return num, size
}

// P15.2, P15.3: a volume that is mounted anew behind each flush, so that none of its checkpoints ever ends a session, goes on for ever.
func TestMountedAnew(t *testing.T) {
	for _, g := range []geom.Geom{{Segs: 10, Groups: 1, Inodes: 3}, {Segs: 14, Groups: 1, Inodes: 200}, {Segs: 20, Groups: 2, Inodes: 20}} {
		d, v := format(t, g, 1)
		num, size := filled(t, v)
		for i := range 300 {
			at := i * 7 * 128 % size
			v.SetTime(uint32(i))
			v.Write(num, at, []byte{byte(i)})
			flush(t, v)
			w, e := vol.Mount(d)
			if e != api.OK {
				t.Fatalf("P15.2: Mount = %v", e)
			}
			if b, e := w.Read(num, at, 1); e != api.OK || b[0] != byte(i) {
				t.Fatalf("P15.2: %d: Read = %v, %v", i, b, e)
			}
			v = w
		}
	}
}

// P15.3: with just as much as may live all can be written again and again, in one flush, and in small ones; one block more is refused, and less never is.
func TestFull(t *testing.T) {
	for _, g := range []geom.Geom{{Segs: 10, Groups: 1, Inodes: 3}, {Segs: 14, Groups: 1, Inodes: 200}, {Segs: 20, Groups: 2, Inodes: 20}, {Segs: 60, Groups: 4, Inodes: 100}} {
		d, v := format(t, g, 1)
		num, size := filled(t, v)
		for i := range 100 {
			for _, n := range v.Used() {
				v.Mark(n, uint32(i))
				v.Link(n, 1-2*(i%2))
			}
			v.Link(api.Root, 1)
			if i%3 == 0 {
				b := make([]byte, size)
				b[i] = byte(i)
				v.Write(num, 0, b)
			} else {
				v.Write(num, i*97%size, []byte{byte(i)})
			}
			if i == 99 {
				v.Link(num, 1)
			}
			flush(t, v)
		}
		was := d.Deeds()
		v.Write(num, size, []byte("x"))
		_, e := v.Clean()
		if v.Cost() <= g.Room() || v.Flush() != api.ErrNospc || v.Checkpoint() != api.ErrNospc || e != api.ErrNospc || d.Deeds() != was {
			t.Errorf("P15.3: with a cost of %d of %d: Clean = %v", v.Cost(), g.Room(), e)
		}
		if k, e := v.Clean(-1); k != 0 || e != api.ErrInval {
			t.Errorf("P15.3: Clean(-1) without room = %d, %v", k, e)
		}
		v.Truncate(num, size)
		if e := v.Checkpoint(); e != api.OK || v.Free() < need(g) || v.Live() != v.Cost() {
			t.Errorf("P15.3: Checkpoint = %v, %d segments are clean", e, v.Free())
		}
		if b, e := mounts(t, d).Read(num, 99, 1); e != api.OK || b[0] != 99 {
			t.Errorf("P15.3: Read = %v, %v", b, e)
		}
	}
}

// P15.1, P15.4: what is live in the segments that are named is written elsewhere, and counted.
func TestClean(t *testing.T) {
	d, v := format(t, small, 1)
	num := made(t, v, nil)
	for i := range 12 {
		v.SetTime(uint32(i))
		v.Write(num, 128*i, make([]byte, 128))
		flush(t, v)
	}
	live := func(list ...int) int {
		sum := 0
		for _, seg := range list {
			if use := v.Uses()[seg]; use.State == usage.Dirty {
				sum += use.Live
			}
		}
		return sum
	}
	for _, bad := range ends {
		if k, e := v.Clean(1, bad); (bad < 0 || bad >= small.Segs) && (k != 0 || e != api.ErrInval) {
			t.Errorf("P15.1: Clean(1, %d) = %d, %v", bad, k, e)
		}
	}
	table, _ := usage.Load(small.Cap(), v.Uses()...)
	best := table.Order(v.Time())[0]
	want := live(best)
	if k, e := v.Clean(); k != want || k == 0 || e != api.OK || live(best) != 0 {
		t.Errorf("P15.1: Clean = %d, %v; want %d, of segment %d", k, e, want, best)
	}
	var all, open []int
	for seg, x := range v.Uses() {
		all = append(all, seg, seg)
		if x.State == usage.Open {
			open = append(open, seg)
		}
	}
	was := d.Deeds()
	if k, e := v.Clean(open...); k != 0 || e != api.OK || d.Deeds() != was {
		t.Errorf("P15.1: Clean of those that aren't Dirty = %d, %v", k, e)
	}
	v.Mark(num, 77)
	if k, e := v.Clean(open...); k != 0 || e != api.OK || d.Deeds() == was {
		t.Errorf("P15.1: Clean flushes: %d, %v", k, e)
	}
	want = live(all...) / 2
	if k, e := v.Clean(all...); k != want || k == 0 || e != api.OK || v.Live() != v.Cost() {
		t.Errorf("P15.1: Clean of all = %d, %v; want %d", k, e, want)
	}
	if time, _ := mounts(t, d).Marked(num); time != 77 {
		t.Errorf("P15.2: Marked = %d", time)
	}
	v.Mark(num, 78)
	d.Arm(0)
	if k, e := v.Clean(); k != 0 || e != api.ErrIo {
		t.Errorf("P15.2: Clean of a dead disk = %d, %v", k, e)
	}
	if k, e := v.Clean(0); k != 0 || e != api.ErrIo {
		t.Errorf("P15.2: Clean of a dead disk = %d, %v", k, e)
	}
}

// P15.2: a disk that dies while Clean reads it, be it a summary or a block.
func TestCleanDies(t *testing.T) {
	d, v := format(t, small, 1)
	made(t, v, make([]byte, 2000))
	v.Checkpoint()
	made(t, v, make([]byte, 2000))
	flush(t, v)
	d.Arm(0)
	d.Flush()
	if k, e := v.Clean(); k != 0 || e != api.ErrIo {
		t.Errorf("P15.2: Clean of a dead disk = %d, %v", k, e)
	}
	d.Crash()
	if k, e := v.Clean(); k != 0 || e != api.ErrIo || v.Flush() != api.ErrIo {
		t.Errorf("P15.2: Clean behind an error of the disk = %d, %v", k, e)
	}
	if w := mounts(t, d); w.Cost() != v.Cost() {
		t.Errorf("P15.2: Cost = %d; want %d", w.Cost(), v.Cost())
	}
}

// P1, P15.2: a disk that is dead is neither read nor written, but what is in memory is still there.
func TestDead(t *testing.T) {
	d, v := format(t, small, 1)
	num := made(t, v, []byte("abc"))
	flush(t, v)
	d.Arm(0)
	d.Flush()
	if b, e := v.Read(num, 0, 3); b != nil || e != api.ErrIo {
		t.Errorf("P15.1: Read of a dead disk = %q, %v", b, e)
	}
	if e := v.Write(num, 1, []byte("x")); e != api.ErrIo {
		t.Errorf("P15.1: Write = %v", e)
	}
	if e := v.Truncate(num, 1); e != api.ErrIo {
		t.Errorf("P15.1: Truncate = %v", e)
	}
	if size, e := v.Size(num); size != 3 || e != api.OK || v.Cost() != 3 {
		t.Errorf("P15.1: Size = %d, %v", size, e)
	}
	if w, e := vol.Mount(d); w != nil || e != api.ErrIo {
		t.Errorf("P15.2: Mount of a dead disk = %v, %v", w, e)
	}
	if e := v.Flush(); e != api.OK {
		t.Errorf("P15.1: Flush of nothing, of a dead disk = %v", e)
	}
	if e := v.Checkpoint(); e != api.ErrIo {
		t.Errorf("P15.2: Checkpoint of a dead disk = %v", e)
	}
}
