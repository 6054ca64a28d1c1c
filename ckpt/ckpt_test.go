package ckpt_test

import (
	"math"
	"math/rand"
	"slices"
	"testing"

	"drumlin/api"
	"drumlin/ckpt"
	"drumlin/codec"
	"drumlin/disk"
	"drumlin/geom"
	"drumlin/imap"
	"drumlin/slog"
	"drumlin/usage"
)

// ends are numbers at the edges of what there is, and far off.
var ends = []int{math.MinInt, -65536, -1, 0, 1, 2, 8, 9, 10, 11, 15, 16, 19, 20, 21, 199, 200, 201, 65535, 65536, 1 << 32, math.MaxInt - 1, math.MaxInt}

var some = geom.Geom{Segs: 20, Groups: 2, Inodes: 13}

// geoms: whose sectors are filled by map and table, or aren't.
var geoms = []geom.Geom{some, {Segs: 15, Groups: 3, Inodes: 10}, {Segs: 30, Groups: 1, Inodes: 20}, {Segs: 16, Groups: 2, Inodes: 11}, {Segs: 14, Groups: 2, Inodes: 2}, {Segs: 200, Groups: 32, Inodes: 200}}

// state is one of g, of anything else.
func state(t *testing.T, r *rand.Rand, g geom.Geom, serial uint64) ckpt.State {
	t.Helper()
	slots := make([]codec.Slot, g.Inodes)
	for i := range slots {
		slots[i] = codec.Slot{At: r.Intn(65536), Version: r.Uint32(), Links: r.Intn(65536), Kind: r.Intn(3)}
	}
	uses := make([]codec.Use, g.Segs)
	for i := range uses {
		uses[i] = codec.Use{Live: r.Intn(g.Cap() + 1), State: r.Intn(4), Age: r.Uint32()}
	}
	uses[0].Live = g.Cap()
	segs := r.Perm(g.Segs)
	m, e := imap.Load(slots...)
	u, fault := usage.Load(g.Cap(), uses...)
	if e != api.OK || fault != api.OK {
		t.Fatalf("no map or no table: %v, %v", e, fault)
	}
	return ckpt.State{Serial: serial, Place: slog.Place{Seg: segs[0], Group: r.Intn(g.Groups + 1), Next: segs[1], Seq: r.Uint64()}, Time: r.Uint32(), Map: m, Table: u}
}

func made(t *testing.T, g geom.Geom) *disk.Disk {
	t.Helper()
	d, e := disk.New(g.Sectors())
	if e != api.OK {
		t.Fatalf("no disk of %d sectors: %v", g.Sectors(), e)
	}
	return d
}

func same(a, b ckpt.State) bool {
	if a.Map == nil || b.Map == nil || a.Table == nil || b.Table == nil {
		return a == b
	}
	return a.Serial == b.Serial && a.Place == b.Place && a.Time == b.Time && slices.Equal(a.Map.Slots(), b.Map.Slots()) && slices.Equal(a.Table.Uses(), b.Table.Uses())
}

func writes(t *testing.T, d *disk.Disk, g geom.Geom, s ckpt.State) {
	t.Helper()
	if e := ckpt.Write(d, g, s); e != api.OK {
		t.Fatalf("P12.1: Write(%d) = %v", s.Serial, e)
	}
}

// refused: and of the disk nothing is another.
func refused(t *testing.T, d *disk.Disk, g geom.Geom, s ckpt.State, want api.Errno, what string) {
	t.Helper()
	before := d.Twin()
	if e := ckpt.Write(d, g, s); e != want {
		t.Errorf("P12.1: %s: Write = %v; want %v", what, e, want)
	}
	if !d.Same(before) || d.Deeds() != before.Deeds() {
		t.Errorf("P12.1: %s: the disk is another one, beside %v", what, want)
	}
}

func reads(t *testing.T, d *disk.Disk, g geom.Geom, want ckpt.State, what string) {
	t.Helper()
	if s, e := ckpt.Read(d, g); e != api.OK || !same(s, want) {
		t.Errorf("%s: Read = %+v, %v; want %+v", what, s, e, want)
	}
}

func readFails(t *testing.T, d *disk.Disk, g geom.Geom, want api.Errno, what string) {
	t.Helper()
	if s, e := ckpt.Read(d, g); e != want || s != (ckpt.State{}) {
		t.Errorf("%s: Read = %+v, %v; want %v", what, s, e, want)
	}
}

func regions(t *testing.T, d *disk.Disk, g geom.Geom, a, b uint64, want api.Errno, what string) {
	t.Helper()
	if both, e := ckpt.Regions(d, g); e != want || both != [2]uint64{a, b} {
		t.Errorf("%s: Regions = %v, %v; want %d, %d, %v", what, both, e, a, b, want)
	}
}

// laid are the sectors of a region that has this, byte by byte as layers 5 and 10 lay them.
func laid(t *testing.T, s ckpt.State) []api.Sector {
	t.Helper()
	h, e := codec.WriteHeader(codec.Header{Serial: s.Serial, Seq: s.Place.Seq, Seg: s.Place.Seg, Group: s.Place.Group, Next: s.Place.Next, Time: s.Time})
	if e != api.OK {
		t.Fatalf("no header of %+v: %v", s, e)
	}
	return append(append([]api.Sector{h}, s.Map.Sectors()...), laidUses(t, 15, s.Table.Uses())...)
}

func laidUses(t *testing.T, each int, uses []codec.Use) []api.Sector {
	t.Helper()
	var list []api.Sector
	for at := 0; at < len(uses); at += each {
		s, e := codec.WriteUses(uses[at:min(at+each, len(uses))]...)
		if e != api.OK {
			t.Fatalf("no sector of uses: %v", e)
		}
		list = append(list, s)
	}
	return list
}

// put lays sectors on the disk as they are.
func put(d *disk.Disk, at int, list ...api.Sector) {
	for i, s := range list {
		d.Write(at+i, s)
	}
	d.Flush()
}

// P12.1: the document's example.
func TestExample(t *testing.T) {
	r := rand.New(rand.NewSource(1))
	d := made(t, some)
	one, two := state(t, r, some, 1), state(t, r, some, 2)
	writes(t, d, some, one)
	reads(t, d, some, one, "P12.1")
	regions(t, d, some, 0, 1, api.OK, "P12.1")
	writes(t, d, some, two)
	reads(t, d, some, two, "P12.1")
	regions(t, d, some, 2, 1, api.OK, "P12.1")
}

// P12.1: the last one of many is read, the one ahead of it stands beside it; all is safe when Write answers.
func TestWriteRead(t *testing.T) {
	r := rand.New(rand.NewSource(2))
	for _, g := range geoms {
		for _, first := range []uint64{1, 2, 41, 1 << 32, math.MaxUint64 - 5} {
			d, ahead := made(t, g), [2]uint64{}
			for i := range uint64(6) {
				s := state(t, r, g, first+i)
				writes(t, d, g, s)
				if len(d.Queue()) != 0 {
					t.Errorf("P12.1: the queue is %v behind Write", d.Queue())
				}
				ahead[s.Serial%2] = s.Serial
				reads(t, d, g, s, "P12.1")
				regions(t, d, g, ahead[0], ahead[1], api.OK, "P12.1")
			}
		}
	}
}

// P12.1: the sectors of a checkpoint are those that the document tells, and no others are written.
func TestSectors(t *testing.T) {
	r := rand.New(rand.NewSource(3))
	for _, g := range geoms {
		for serial := range uint64(4) {
			d, want := made(t, g), made(t, g)
			s := state(t, r, g, serial)
			writes(t, d, g, s)
			put(want, g.Region(int(serial%2)), laid(t, s)...)
			if !d.Same(want) || d.Deeds() != 1+g.Chunks()+g.Tables()+2 {
				t.Errorf("P12.1: %+v: Write of %d wrote something else, with %d deeds", g, serial, d.Deeds())
			}
		}
	}
}

// P12.1: map and table are written, then a flush, then the header, then a flush: wherever it dies, the queue tells which were made.
func TestOrder(t *testing.T) {
	r := rand.New(rand.NewSource(4))
	s := state(t, r, some, 7)
	at := some.Region(1)
	queues := [][]int{{at + 1}, {at + 1, at + 2}, {at + 1, at + 2, at + 3}, {at + 1, at + 2, at + 3, at + 4}, {at + 1, at + 2, at + 3, at + 4}, {at}, {at}, {}}
	for deeds, want := range queues {
		d := made(t, some)
		d.Arm(deeds)
		e := ckpt.Write(d, some, s)
		if !slices.Equal(d.Queue(), want) || (e == api.OK) != (deeds == 7) || e != api.OK && e != api.ErrIo {
			t.Errorf("P12.1: behind %d deeds: Write = %v, queue %v; want %v", deeds, e, d.Queue(), want)
		}
	}
}

// P12.1: the greater Serial is read, whichever was written last, 0 too.
func TestGreater(t *testing.T) {
	r := rand.New(rand.NewSource(5))
	for _, pair := range [][2]uint64{{8, 3}, {2, 9}, {0, 1}, {0, math.MaxUint64}, {math.MaxUint64 - 1, math.MaxUint64}, {math.MaxUint64 - 1, 1}, {1 << 63, 1<<63 - 1}} {
		for _, order := range [][2]int{{0, 1}, {1, 0}} {
			d := made(t, some)
			both := [2]ckpt.State{state(t, r, some, pair[0]), state(t, r, some, pair[1])}
			writes(t, d, some, both[order[0]])
			reads(t, d, some, both[order[0]], "P12.1: alone")
			writes(t, d, some, both[order[1]])
			greater := both[0]
			if pair[1] > pair[0] {
				greater = both[1]
			}
			reads(t, d, some, greater, "P12.1: the greater one")
			regions(t, d, some, pair[0], pair[1], api.OK, "P12.1")
		}
	}
}

// P12.1: the table that is read has g.Cap as room.
func TestRoom(t *testing.T) {
	r := rand.New(rand.NewSource(6))
	for _, room := range []int{1, some.Cap(), 4096} {
		d, s := made(t, some), state(t, r, some, 5)
		s.Table = usage.New(some.Segs, room)
		writes(t, d, some, s)
		got, e := ckpt.Read(d, some)
		if e != api.OK || got.Table.Count(3, some.Cap()) != api.OK || got.Table.Count(3, 1) != api.ErrInval {
			t.Errorf("P12.1: of a table with room %d: Read = %+v, %v", room, got, e)
		}
	}
}

// P12.1: a map or a table of another geometry, none, or numbers that a header hasn't room for are refused ahead of any write; also on a dead disk.
func TestWriteErrors(t *testing.T) {
	r := rand.New(rand.NewSource(7))
	for _, dead := range []bool{false, true} {
		d := made(t, some)
		writes(t, d, some, state(t, r, some, 1))
		if dead {
			d.Arm(0)
			d.Flush()
		}
		for _, n := range []int{1, 2, 10, 12, 14, 20, 23, 200} {
			s := state(t, r, some, 2)
			s.Map = imap.New(n)
			refused(t, d, some, s, api.ErrInval, "another map")
		}
		for _, n := range []int{1, 8, 15, 19, 21, 30, 200} {
			s := state(t, r, some, 2)
			s.Table = usage.New(n, some.Cap())
			refused(t, d, some, s, api.ErrInval, "another table")
		}
		for _, n := range []int{math.MinInt, -65536, -1, 65536, 1 << 32, math.MaxInt} {
			for _, p := range []slog.Place{{Seg: n, Next: 1}, {Seg: 1, Group: n, Next: 2}, {Seg: 1, Next: n}} {
				s := state(t, r, some, 2)
				s.Place = p
				refused(t, d, some, s, api.ErrInval, "no such place")
			}
		}
		s := state(t, r, some, 2)
		refused(t, d, some, ckpt.State{}, api.ErrInval, "nothing")
		refused(t, d, some, ckpt.State{Place: s.Place, Map: s.Map}, api.ErrInval, "no table")
		refused(t, d, some, ckpt.State{Place: s.Place, Table: s.Table}, api.ErrInval, "no map")
	}
}

// P12.1: the disk's errors. One that hasn't all the sectors is left as it was.
func TestDiskErrors(t *testing.T) {
	r := rand.New(rand.NewSource(8))
	d, s := made(t, some), state(t, r, some, 2)
	writes(t, d, some, s)
	d.Arm(0)
	d.Flush()
	for range 2 {
		refused(t, d, some, s, api.ErrIo, "a dead disk")
		readFails(t, d, some, api.ErrIo, "P12.1: a dead disk")
		regions(t, d, some, 0, 0, api.ErrIo, "P12.1: a dead disk")
		s.Serial++
	}
	for size := 1; size <= some.Summary(0, 0); size++ {
		for i := range 2 {
			d, _ := disk.New(size)
			s.Serial = 4 + uint64(i)
			if size < some.Region(i)+1+some.Chunks()+some.Tables() {
				refused(t, d, some, s, api.ErrInval, "a small disk")
			} else {
				writes(t, d, some, s)
			}
			if size < some.Summary(0, 0) {
				readFails(t, d, some, api.ErrInval, "P12.1: a small disk")
				regions(t, d, some, 0, 0, api.ErrInval, "P12.1: a small disk")
			} else {
				reads(t, d, some, s, "P12.1: a disk that is just great enough")
			}
		}
	}
}

// P12.2: some stand, the next one is written, and the disk dies somewhere: whatever is kept, the one ahead is read, or this one, and this one if Write answered OK.
func TestCrash(t *testing.T) {
	r := rand.New(rand.NewSource(9))
	for _, g := range geoms[:5] {
		for stand := range uint64(4) {
			d := made(t, g)
			var last ckpt.State
			for i := range stand {
				last = state(t, r, g, 7+i)
				writes(t, d, g, last)
			}
			dies(t, r, d, g, last, state(t, r, g, 7+stand))
		}
	}
}

// dies: wherever it does. Where none stood ahead there may be none.
func dies(t *testing.T, r *rand.Rand, old *disk.Disk, g geom.Geom, last, next ckpt.State) {
	t.Helper()
	seen := [2]int{}
	deeds := 1 + g.Chunks() + g.Tables() + 2
	for n := range deeds + 1 {
		d := old.Twin()
		d.Arm(n)
		e := ckpt.Write(d, g, next)
		if (e == api.OK) != (n == deeds) {
			t.Errorf("P12.2: Write that dies behind %d deeds = %v", n, e)
		}
		queue := len(d.Queue())
		for kept := range 1 << queue {
			after := d.Twin()
			keep := make([]bool, queue)
			for i := range keep {
				keep[i] = kept>>i&1 == 1
			}
			after.Crash(keep...)
			got, fault := ckpt.Read(after, g)
			switch {
			case fault == api.OK && same(got, next):
				seen[1]++
			case e != api.OK && last.Map != nil && fault == api.OK && same(got, last), e != api.OK && last.Map == nil && fault == api.ErrForm:
				seen[0]++
			default:
				t.Errorf("P12.2: behind %d deeds (%v), kept %v: Read = %+v, %v", n, e, keep, got, fault)
			}
			if again := state(t, r, g, next.Serial); kept == 0 { // and it goes on
				writes(t, after, g, again)
				reads(t, after, g, again, "P12.2: written again")
			}
		}
	}
	if seen[0] == 0 || seen[1] < 2 {
		t.Errorf("P12.2: it was gone %d times, and there %d times", seen[0], seen[1])
	}
}

// P12.3: a region with a byte that is another one isn't whole, wherever it is: the other one is read.
func TestOneByte(t *testing.T) {
	r := rand.New(rand.NewSource(10))
	for _, g := range geoms[:5] {
		both := [2]ckpt.State{state(t, r, g, 6), state(t, r, g, 7)}
		for i, s := range both {
			list := laid(t, s)
			for at := range list {
				for range 40 {
					d := made(t, g)
					put(d, g.Region(0), laid(t, both[0])...)
					put(d, g.Region(1), laid(t, both[1])...)
					other := list[at]
					other[r.Intn(len(other))] ^= byte(1 + r.Intn(255))
					put(d, g.Region(i)+at, other)
					reads(t, d, g, both[1-i], "P12.3: a byte")
					want := [2]uint64{6, 7}
					want[i] = 0
					regions(t, d, g, want[0], want[1], api.OK, "P12.3: a byte")
				}
			}
		}
	}
}

// unwhole tries a region whose sectors aren't those of a checkpoint: alone, and beside another one.
func unwhole(t *testing.T, g geom.Geom, i int, list []api.Sector, what string) {
	t.Helper()
	r := rand.New(rand.NewSource(11))
	d := made(t, g)
	put(d, g.Region(i), list...)
	readFails(t, d, g, api.ErrForm, "P12.3: "+what)
	regions(t, d, g, 0, 0, api.OK, "P12.3: "+what)
	other := state(t, r, g, uint64(3-i))
	writes(t, d, g, other)
	reads(t, d, g, other, "P12.3: "+what)
}

// P12.3: noughts are no checkpoint; a Serial is of one region alone.
func TestSerials(t *testing.T) {
	r := rand.New(rand.NewSource(12))
	for _, serial := range []uint64{0, 1, 2, 3, 1 << 40, math.MaxUint64} {
		s := state(t, r, some, serial)
		unwhole(t, some, int(1-serial%2), laid(t, s), "the other region's Serial")
		unwhole(t, some, int(serial%2), make([]api.Sector, 5), "noughts")
		d := made(t, some)
		put(d, some.Region(int(serial%2)), laid(t, s)...)
		reads(t, d, some, s, "P12.3: its own region's Serial")
	}
}

// P12.3: a header's place must be of the geometry. (Write takes each place for which there is room in a header.)
func TestPlaces(t *testing.T) {
	r := rand.New(rand.NewSource(13))
	for _, n := range []int{0, 1, 2, 3, 18, 19, 20, 21, 255, 65535} {
		for _, try := range []struct {
			p  slog.Place
			ok bool
		}{
			{slog.Place{Seg: n, Next: 1, Seq: 4}, n < 20 && n != 1},
			{slog.Place{Seg: 1, Next: n, Seq: 4}, n < 20 && n != 1},
			{slog.Place{Seg: n, Next: n}, false},
			{slog.Place{Seg: 1, Group: n, Next: 2}, n <= 2},
			{slog.Place{Seg: 19, Group: n, Next: 0}, n <= 2},
		} {
			for serial := range uint64(2) {
				s := state(t, r, some, serial+6)
				s.Place = try.p
				d := made(t, some)
				writes(t, d, some, s)
				if try.ok {
					reads(t, d, some, s, "P12.3: a place")
					continue
				}
				readFails(t, d, some, api.ErrForm, "P12.3: no place")
				unwhole(t, some, int(serial), laid(t, s), "no place")
			}
		}
	}
}

// P12.3: map and table must be just those of the geometry.
func TestMapTable(t *testing.T) {
	r := rand.New(rand.NewSource(14))
	s := state(t, r, some, 6)
	list := laid(t, s) // the header, two sectors of the map, two of the table
	join := func(a []api.Sector, b ...api.Sector) []api.Sector { return append(slices.Clone(a), b...) }
	for _, n := range []int{11, 12, 14, 20} {
		unwhole(t, some, 0, join(join(list[:1], imap.New(n).Sectors()...), list[3:]...), "a map of another size")
	}
	unwhole(t, some, 0, []api.Sector{list[0], list[2], list[1], list[3], list[4]}, "the map's sectors, turned round")
	unwhole(t, some, 0, []api.Sector{list[0], list[1], list[2], list[4], list[3]}, "the table's sectors, turned round")
	unwhole(t, some, 0, []api.Sector{list[0], list[3], list[4], list[1], list[2]}, "the table ahead of the map")
	unwhole(t, some, 0, list[:4], "half a table")
	unwhole(t, some, 0, list[:3], "no table")
	unwhole(t, some, 0, list[:1], "a header alone")
	unwhole(t, some, 0, join([]api.Sector{{}}, list[1:]...), "no header")
	unwhole(t, some, 0, join(list[1:2], list[1:]...), "the map as header")
	for _, n := range []int{16, 19, 21, 30} {
		unwhole(t, some, 0, join(list[:3], laidUses(t, 15, make([]codec.Use, n))...), "a table of another size")
	}
	for _, each := range []int{10, 12, 14} {
		unwhole(t, some, 0, join(list[:3], laidUses(t, each, s.Table.Uses())...), "a table that is cut elsewhere")
	}
	for i := range some.Segs {
		uses := s.Table.Uses()
		for _, live := range []int{some.Cap() + 1, 4096, 65535} {
			uses[i].Live = live
			unwhole(t, some, 0, join(list[:3], laidUses(t, 15, uses)...), "more is live than there is room for")
		}
		uses[i].Live = some.Cap()
		d := made(t, some)
		put(d, some.Region(0), join(list[:3], laidUses(t, 15, uses)...)...)
		if got, e := ckpt.Read(d, some); e != api.OK || !slices.Equal(got.Table.Uses(), uses) {
			t.Errorf("P12.3: a full segment: Read = %+v, %v", got, e)
		}
	}
}

// P12.3: sectors of two checkpoints, mixed: what is read is one whose parts all stand there.
func TestMixed(t *testing.T) {
	r := rand.New(rand.NewSource(15))
	for range 300 {
		g := geoms[r.Intn(5)]
		d := made(t, g)
		both := [2][]api.Sector{laid(t, state(t, r, g, 4)), laid(t, state(t, r, g, 6))}
		for at := range both[0] {
			both[0][at] = both[r.Intn(2)][at]
			if r.Intn(12) == 0 {
				r.Read(both[0][at][:])
			}
		}
		put(d, g.Region(0), both[0]...)
		s, e := ckpt.Read(d, g)
		if e == api.ErrForm && s == (ckpt.State{}) {
			regions(t, d, g, 0, 0, api.OK, "P12.3: mixed")
			continue
		}
		if e != api.OK || !slices.Equal(laid(t, s), both[0]) {
			t.Errorf("P12.3: mixed: Read = %+v, %v", s, e)
		}
		regions(t, d, g, s.Serial, 0, api.OK, "P12.3: mixed")
	}
}

// P12.4: what is read hangs on nothing that is done with what was written, or with what was read before.
func TestKept(t *testing.T) {
	r := rand.New(rand.NewSource(16))
	d, s := made(t, some), state(t, r, some, 6)
	slots, uses := s.Map.Slots(), s.Table.Uses()
	writes(t, d, some, s)
	if !slices.Equal(slots, s.Map.Slots()) || !slices.Equal(uses, s.Table.Uses()) {
		t.Errorf("P12.4: Write changed what it was handed")
	}
	spoil := func(x ckpt.State) {
		for num := range some.Inodes {
			x.Map.Set(num+1, codec.Slot{At: 9})
		}
		for seg := range some.Segs {
			x.Table.Set(seg, usage.Held)
			x.Table.Touch(seg, math.MaxUint32)
		}
	}
	spoil(s)
	for range 3 {
		got, e := ckpt.Read(d, some)
		if e != api.OK || !slices.Equal(slots, got.Map.Slots()) || !slices.Equal(uses, got.Table.Uses()) {
			t.Errorf("P12.4: Read = %+v, %v", got, e)
		}
		spoil(got)
	}
}

// P1: whatever the arguments are.
func TestNoPanic(t *testing.T) {
	r := rand.New(rand.NewSource(17))
	pick := func() int { return ends[r.Intn(len(ends))] }
	d := made(t, some)
	for range 20000 {
		g := geom.Geom{Segs: pick(), Groups: pick(), Inodes: pick()}
		s := ckpt.State{Serial: r.Uint64(), Place: slog.Place{Seg: pick(), Group: pick(), Next: pick(), Seq: r.Uint64()}, Time: r.Uint32()}
		if r.Intn(8) > 0 {
			s.Map = imap.New(g.Inodes)
		}
		if r.Intn(8) > 0 {
			s.Table = usage.New(g.Segs, pick())
		}
		ckpt.Write(d, g, s)
		ckpt.Read(d, g)
		ckpt.Regions(d, g)
		if r.Intn(50) == 0 {
			d.Flush()
		}
	}
}
