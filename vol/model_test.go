package vol_test

import (
	"bytes"
	"maps"
	"math/rand"
	"reflect"
	"slices"
	"testing"

	"drumlin/api"
	"drumlin/ckpt"
	"drumlin/codec"
	"drumlin/disk"
	"drumlin/geom"
	"drumlin/ptr"
	"drumlin/usage"
	"drumlin/vol"
)

// file is one as the document tells it: bytes, blocks and a time.
type file struct {
	bytes  []byte
	blocks map[int]bool
	time   uint32
}

// image is a volume as the document tells it, without a disk: slots from number 1 on, and the files of those that aren't free.
type image struct {
	slots []codec.Slot
	files map[int]*file
}

func newImage(inodes int) *image {
	m := &image{make([]codec.Slot, inodes), map[int]*file{}}
	m.alloc(api.Dir)
	m.slots[0].Links = 1
	return m
}

func (m *image) copy() *image {
	other := &image{slices.Clone(m.slots), map[int]*file{}}
	for num, f := range m.files {
		other.files[num] = &file{slices.Clone(f.bytes), maps.Clone(f.blocks), f.time}
	}
	return other
}

// crashed: what a mount finds of it.
func (m *image) crashed() *image {
	other := m.copy()
	for num := range m.files {
		if m.slots[num-1].Links == 0 {
			other.release(num)
		}
	}
	return other
}

func (m *image) used() []int {
	return slices.Sorted(maps.Keys(m.files))
}

func (m *image) alloc(kind int) int {
	for i, s := range m.slots {
		if s.Kind == api.Free {
			m.slots[i] = codec.Slot{Version: s.Version + 1, Kind: kind}
			m.files[i+1] = &file{blocks: map[int]bool{}}
			return i + 1
		}
	}
	return 0
}

func (m *image) release(num int) {
	m.slots[num-1] = codec.Slot{Version: m.slots[num-1].Version}
	delete(m.files, num)
}

func (f *file) write(at int, b []byte) {
	if len(b) == 0 {
		return
	}
	f.bytes = append(f.bytes, make([]byte, max(0, at+len(b)-len(f.bytes)))...)
	copy(f.bytes[at:], b)
	for i := at / 128; i*128 < at+len(b); i++ {
		f.blocks[i] = true
	}
}

func (f *file) truncate(size int) {
	f.bytes = append(f.bytes[:min(size, len(f.bytes))], make([]byte, max(0, size-len(f.bytes)))...)
	for i := range f.blocks {
		if i*128 >= size {
			delete(f.blocks, i)
		}
	}
}

func (f *file) indexes() []int {
	return slices.Sorted(maps.Keys(f.blocks))
}

func (m *image) cost() int {
	sum := 0
	for _, f := range m.files {
		sum += ptr.Cost(f.indexes()...)
	}
	return sum
}

// differs: in what a volume is not what an image is; nothing, if it is.
func differs(v *vol.Vol, m *image) []any {
	if !slices.Equal(v.Used(), m.used()) || v.Cost() != m.cost() {
		return []any{"Used", v.Used(), m.used(), "Cost", v.Cost(), m.cost()}
	}
	for i, want := range m.slots {
		s, e := v.Slot(i + 1)
		s.At = 0
		if e != api.OK || s != want {
			return []any{"Slot", i + 1, s, e, want}
		}
	}
	for num, f := range m.files {
		size, _ := v.Size(num)
		b, e := v.Read(num, 0, api.MaxSize)
		indexes, _ := v.Indexes(num)
		time, _ := v.Marked(num)
		if e != api.OK || size != len(f.bytes) || !bytes.Equal(b, f.bytes) || !slices.Equal(indexes, f.indexes()) || time != f.time {
			return []any{"file", num, size, len(f.bytes), e, indexes, f.indexes(), time, f.time}
		}
	}
	return nil
}

func is(t *testing.T, v *vol.Vol, m *image, what string) {
	t.Helper()
	if d := differs(v, m); d != nil {
		t.Fatalf("P15.1: %s: %v", what, d)
	}
}

// need: how many segments must be such that they can be written once more.
func need(g geom.Geom) int {
	return g.Most() + (g.Chunks()+g.Cap()-1)/g.Cap() + 1
}

// sound: is what a volume tells of its segments as it must be, behind a flush of this image, and is it the same if it is mounted?
func sound(t *testing.T, d *disk.Disk, v *vol.Vol, flushed *image) {
	t.Helper()
	uses := v.Uses()
	sum, free, spare := 0, 0, 0
	for _, x := range uses {
		sum += x.Live
		if x.State == usage.Clean {
			free++
		}
		if x.State == usage.Clean || x.State == usage.Dirty && x.Live == 0 {
			spare++
		}
		if x.State == usage.Clean && x != (codec.Use{}) {
			t.Fatalf("P15.4: a clean segment is %v", x)
		}
	}
	if v.Live() != flushed.cost() || v.Live() != sum || v.Free() != free || len(uses) != v.Geom().Segs {
		t.Fatalf("P15.4: Live %d, Free %d, of the segments %d, %d; the cost is %d", v.Live(), v.Free(), sum, free, flushed.cost())
	}
	if spare < need(v.Geom()) {
		t.Fatalf("P15.3: %d segments may be written again; want %d", spare, need(v.Geom()))
	}
	twin := d.Twin()
	twin.Crash()
	was := twin.Twin()
	w, e := vol.Mount(twin)
	if e != api.OK || !twin.Same(was) || twin.Deeds() != was.Deeds() || w.Geom() != v.Geom() {
		t.Fatalf("P15.2: Mount = %v", e)
	}
	if d := differs(w, flushed.crashed()); d != nil {
		t.Fatalf("P15.2: Mount: %v", d)
	}
	if w.Live() != w.Cost() || w.Time() > v.Time() {
		t.Fatalf("P15.4: mounted: Live %d, Cost %d, Time %d; was %d", w.Live(), w.Cost(), w.Time(), v.Time())
	}
	if len(flushed.crashed().files) == len(flushed.files) && !reflect.DeepEqual(w.Uses(), uses) {
		t.Fatalf("P15.2: mounted: %v; was %v", w.Uses(), uses)
	}
}

// walk is a random walk of a volume and its image.
type walk struct {
	d       *disk.Disk
	v       *vol.Vol
	now     *image
	flushed *image
	r       *rand.Rand
	plain   bool // nothing but Flush
}

func newWalk(t *testing.T, g geom.Geom, seed int64) *walk {
	t.Helper()
	d, v := format(t, g, 3)
	return &walk{d: d, v: v, now: newImage(g.Inodes), flushed: newImage(g.Inodes), r: rand.New(rand.NewSource(seed))}
}

// some: one of the numbers that are used.
func (w *walk) some() int {
	used := w.now.used()
	return used[w.r.Intn(len(used))]
}

// edit does one thing to a file, in both.
func (w *walk) edit(t *testing.T) {
	t.Helper()
	num := w.some()
	f := w.now.files[num]
	room := w.v.Geom().Room()
	switch w.r.Intn(10) {
	case 0, 1:
		kind := 1 + w.r.Intn(2)
		n, e := w.v.New(kind)
		if want := w.now.alloc(kind); n != want || (want == 0) != (e == api.ErrNospc) {
			t.Fatalf("P15.1: New = %d, %v; want %d", n, e, want)
		}
		if n != 0 && w.r.Intn(5) > 0 {
			w.v.Link(n, 1)
			w.now.slots[n-1].Links = 1
		}
	case 2:
		e := w.v.Delete(num)
		if num == api.Root && e != api.ErrBusy || num != api.Root && e != api.OK {
			t.Fatalf("P15.1: Delete(%d) = %v", num, e)
		}
		if num != api.Root {
			w.now.release(num)
		}
	case 3:
		by := w.r.Intn(3) - 1
		if num == api.Root {
			by = 1
		}
		links := w.now.slots[num-1].Links + by
		n, e := w.v.Link(num, by)
		if links < 0 || links > api.MaxLinks {
			if e != api.ErrMlink {
				t.Fatalf("P15.1: Link(%d, %d) = %v", num, by, e)
			}
		} else if n != links || e != api.OK {
			t.Fatalf("P15.1: Link(%d, %d) = %d, %v; want %d", num, by, n, e, links)
		} else {
			w.now.slots[num-1].Links = links
		}
	case 4, 5, 6:
		at := w.r.Intn(128 * (1 + w.r.Intn(room)))
		if w.r.Intn(8) == 0 {
			at = w.r.Intn(api.MaxSize - 1000)
		}
		b := make([]byte, w.r.Intn(1000))
		w.r.Read(b)
		if e := w.v.Write(num, at, b); e != api.OK {
			t.Fatalf("P15.1: Write(%d, %d) = %v", num, at, e)
		}
		f.write(at, b)
	case 7, 8:
		size := w.r.Intn(len(f.bytes) + 200)
		if e := w.v.Truncate(num, size); e != api.OK {
			t.Fatalf("P15.1: Truncate(%d, %d) = %v", num, size, e)
		}
		f.truncate(size)
	case 9:
		time := uint32(w.r.Intn(9))
		if e := w.v.Mark(num, time); e != api.OK {
			t.Fatalf("P15.1: Mark(%d) = %v", num, e)
		}
		f.time = time
	}
}

// shrink makes both less, till all that lives has room.
func (w *walk) shrink(t *testing.T) {
	t.Helper()
	for w.now.cost() > w.v.Geom().Room() {
		num := w.some()
		size := len(w.now.files[num].bytes) / 2
		if num != api.Root && size == 0 {
			w.v.Delete(num)
			w.now.release(num)
		} else if e := w.v.Truncate(num, size); e != api.OK {
			t.Fatalf("P15.1: Truncate = %v", e)
		} else {
			w.now.files[num].truncate(size)
		}
	}
}

// save is one of the calls that write.
func (w *walk) save() (string, api.Errno) {
	if w.plain {
		return "Flush", w.v.Flush()
	}
	switch w.r.Intn(8) {
	case 0:
		return "Checkpoint", w.v.Checkpoint()
	case 1:
		_, e := w.v.Clean()
		return "Clean", e
	case 2:
		var segs []int
		for range 1 + w.r.Intn(4) {
			segs = append(segs, w.r.Intn(w.v.Geom().Segs))
		}
		_, e := w.v.Clean(segs...)
		return "Clean of some", e
	}
	return "Flush", w.v.Flush()
}

// step: some edits, and a call that writes.
func (w *walk) step(t *testing.T) {
	t.Helper()
	for range w.r.Intn(6) {
		w.edit(t)
	}
	if w.r.Intn(4) == 0 {
		w.v.SetTime(uint32(w.r.Intn(1000)))
	}
	is(t, w.v, w.now, "edits")
	if w.now.cost() > w.v.Geom().Room() {
		was := w.d.Twin()
		if what, e := w.save(); e != api.ErrNospc || !w.d.Same(was) {
			t.Fatalf("P15.3: %s with a cost of %d = %v", what, w.v.Cost(), e)
		}
		is(t, w.v, w.now, "without room")
		w.shrink(t)
	}
}

// P15.1 to P15.4: whatever is done, a volume is what its image is, and what was flushed is what is mounted.
func TestModel(t *testing.T) {
	for seed, g := range []geom.Geom{{Segs: 10, Groups: 1, Inodes: 3}, {Segs: 11, Groups: 2, Inodes: 20}, {Segs: 14, Groups: 1, Inodes: 200}, {Segs: 14, Groups: 2, Inodes: 9}, {Segs: 20, Groups: 2, Inodes: 20}, {Segs: 40, Groups: 1, Inodes: 11}, {Segs: 16, Groups: 8, Inodes: 40}} {
		w := newWalk(t, g, int64(seed))
		for range 250 {
			w.step(t)
			what, e := w.save()
			if e != api.OK {
				t.Fatalf("P15.3: %s with a cost of %d of %d = %v", what, w.v.Cost(), g.Room(), e)
			}
			w.flushed = w.now.copy()
			is(t, w.v, w.now, what)
			sound(t, w.d, w.v, w.flushed)
		}
	}
}

// P15.2, P15.3: wherever the disk dies, and whichever writes are kept, again and again: what is mounted is what was flushed last, or was to be, and it goes on from there.
func TestCrashes(t *testing.T) {
	for seed, g := range []geom.Geom{{Segs: 10, Groups: 1, Inodes: 3}, {Segs: 11, Groups: 2, Inodes: 20}, {Segs: 14, Groups: 1, Inodes: 200}, {Segs: 14, Groups: 2, Inodes: 9}, {Segs: 20, Groups: 2, Inodes: 20}, {Segs: 40, Groups: 1, Inodes: 11}} {
		w := newWalk(t, g, int64(seed))
		for i := range 600 {
			w.plain = i > 300
			w.step(t)
			w.d.Arm(w.r.Intn(1 + w.r.Intn(80)))
			what, e := w.save()
			if e == api.OK {
				w.d.Arm(-1)
				w.flushed = w.now.copy()
				sound(t, w.d, w.v, w.flushed)
				continue
			}
			w.died(t, what, e)
		}
	}
}

// died: the disk died in a call. It crashes, and what lies there is mounted.
func (w *walk) died(t *testing.T, what string, e api.Errno) {
	t.Helper()
	if e != api.ErrIo || w.v.Flush() != api.ErrIo || w.v.Checkpoint() != api.ErrIo {
		t.Fatalf("P15.2: %s of a dead disk = %v", what, e)
	}
	w.d.Crash(w.keep()...)
	was := w.d.Twin()
	if k, e := w.v.Clean(); k != 0 || e != api.ErrIo || w.v.Flush() != api.ErrIo || w.v.Checkpoint() != api.ErrIo || !w.d.Same(was) {
		t.Fatalf("P15.2: Clean of a volume that met an error = %d, %v", k, e)
	}
	is(t, w.v, w.now, "a dead disk")
	time := w.v.Time()
	v, e := vol.Mount(w.d)
	if e != api.OK || v.Time() > time {
		t.Fatalf("P15.2: Mount behind %s = %v, time %d of %d", what, e, v.Time(), time)
	}
	w.v = v
	before, behind := differs(v, w.flushed.crashed()), differs(v, w.now.crashed())
	if before != nil && behind != nil {
		t.Fatalf("P15.2: Mount behind %s: neither %v, nor %v", what, before, behind)
	}
	if behind == nil {
		w.flushed = w.now
	}
	w.flushed = w.flushed.crashed()
	w.now = w.flushed.copy()
	sound(t, w.d, w.v, w.flushed)
}

// keep: which writes of the queue are kept.
func (w *walk) keep() []bool {
	keep := make([]bool, len(w.d.Queue()))
	few := w.r.Intn(4)
	for i := range keep {
		keep[i] = w.r.Intn(3) < few
	}
	return keep
}

// P15.2: each deed of each flush of a volume that is full, and that never has another checkpoint than those that it writes by itself.
func TestEachDeed(t *testing.T) {
	for _, g := range []geom.Geom{{Segs: 10, Groups: 1, Inodes: 3}, {Segs: 12, Groups: 2, Inodes: 30}} {
		d, v := format(t, g, 1)
		num, size := filled(t, v)
		flush(t, v)
		checkpoints := 0
		for i := range 40 {
			edit := func(v *vol.Vol) {
				v.SetTime(uint32(i))
				v.Write(num, i*7*128%size, []byte{byte(i)})
				v.Link(num, 1-2*(i%2))
				v.Link(num, 1)
				if i%5 == 0 {
					v.Write(num, 0, make([]byte, size))
				}
			}
			old, _ := v.Slot(num)
			before, _ := v.Read(num, 0, size)
			serial, _ := ckpt.Regions(d, g)
			for deeds := 0; ; deeds++ {
				twin := d.Twin()
				w, _ := vol.Mount(twin)
				edit(w)
				after, _ := w.Read(num, 0, size)
				want, _ := w.Slot(num)
				twin.Arm(deeds)
				if w.Flush() == api.OK {
					break
				}
				for few := range 4 {
					mid := twin.Twin()
					keep := make([]bool, len(mid.Queue()))
					for k := range keep {
						keep[k] = few == 1 || few == 2 && k%2 == 0 || few == 3 && k == len(keep)-1
					}
					mid.Crash(keep...)
					x, e := vol.Mount(mid)
					if e != api.OK {
						t.Fatalf("P15.2: flush %d, behind %d deeds: Mount = %v", i, deeds, e)
					}
					b, _ := x.Read(num, 0, size)
					now, _ := x.Slot(num)
					if (!bytes.Equal(b, before) || now.Links != old.Links) && (!bytes.Equal(b, after) || now.Links != want.Links) || x.Live() != x.Cost() {
						t.Fatalf("P15.2: flush %d, behind %d deeds: the bytes are neither those ahead of it, nor those behind it", i, deeds)
					}
					if e := x.Checkpoint(); e != api.OK || x.Free() < need(g) {
						t.Fatalf("P15.3: flush %d, behind %d deeds: Checkpoint = %v, %d are clean", i, deeds, e, x.Free())
					}
				}
			}
			edit(v)
			flush(t, v)
			if now, _ := ckpt.Regions(d, g); now != serial {
				checkpoints++
			}
		}
		if checkpoints == 0 {
			t.Errorf("P15.2: no flush wrote a checkpoint: the test is in vain")
		}
	}
}
