package roll_test

import (
	"math"
	"math/rand"
	"reflect"
	"slices"
	"testing"

	"drumlin/api"
	"drumlin/ckpt"
	"drumlin/codec"
	"drumlin/disk"
	"drumlin/geom"
	"drumlin/imap"
	"drumlin/roll"
	"drumlin/slog"
	"drumlin/usage"
)

var some = geom.Geom{Segs: 20, Groups: 2, Inodes: 13}

func made(t *testing.T, g geom.Geom) *disk.Disk {
	t.Helper()
	d, e := disk.New(g.Sectors())
	if e != api.OK {
		t.Fatalf("no disk of %d sectors: %v", g.Sectors(), e)
	}
	return d
}

// state is one of g whose slots and segments are anything, but with the log at p.
func state(t *testing.T, r *rand.Rand, g geom.Geom, p slog.Place) ckpt.State {
	t.Helper()
	slots := make([]codec.Slot, g.Inodes)
	for i := range slots {
		slots[i] = codec.Slot{At: r.Intn(65536), Version: uint32(r.Intn(3)), Links: r.Intn(3), Kind: r.Intn(3)}
	}
	uses := make([]codec.Use, g.Segs)
	for i := range uses {
		uses[i] = codec.Use{Live: r.Intn(g.Cap() + 1), State: r.Intn(4), Age: uint32(r.Intn(40))}
	}
	m, e := imap.Load(slots...)
	u, fault := usage.Load(g.Cap(), uses...)
	if e != api.OK || fault != api.OK {
		t.Fatalf("no map or no table: %v, %v", e, fault)
	}
	return ckpt.State{Serial: r.Uint64(), Place: p, Time: r.Uint32(), Map: m, Table: u}
}

// shown is what a state is; its map and its table as lists.
type shown struct {
	serial uint64
	place  slog.Place
	time   uint32
	slots  []codec.Slot
	uses   []codec.Use
}

func show(s ckpt.State) shown {
	return shown{s.Serial, s.Place, s.Time, s.Map.Slots(), s.Table.Uses()}
}

func same(a, b shown) bool {
	return reflect.DeepEqual(a, b)
}

func records(t *testing.T, list ...codec.Record) api.Sector {
	t.Helper()
	s, e := codec.WriteRecords(list...)
	if e != api.OK {
		t.Fatalf("no records %v: %v", list, e)
	}
	return s
}

// block is one of a batch.
func block(kind int, num, version uint32, at int) slog.Found {
	return slog.Found{Entry: codec.Entry{Kind: kind, Num: num, Version: version}, At: at}
}

func applies(t *testing.T, d *disk.Disk, m *imap.Map, want api.Errno, what string, list ...slog.Found) {
	t.Helper()
	before := d.Twin()
	if e := roll.Apply(d, m, slog.Batch{First: 1, Time: 2, List: list}); e != want {
		t.Errorf("P14.1: %s: Apply = %v; want %v", what, e, want)
	}
	if !d.Same(before) || d.Deeds() != before.Deeds() {
		t.Errorf("P14.1: %s: the disk is another one", what)
	}
}

func slotIs(t *testing.T, m *imap.Map, num int, want codec.Slot, what string) {
	t.Helper()
	if got, e := m.Get(num); e != api.OK || got != want {
		t.Errorf("P14.1: %s: slot %d = %+v, %v; want %+v", what, num, got, e, want)
	}
}

// P14.1: what a slot becomes by a record.
func TestRecords(t *testing.T) {
	tests := []struct {
		what         string
		ahead, slots codec.Slot
		record       codec.Record
	}{
		{"a new one", codec.Slot{}, codec.Slot{Version: 1, Links: 2, Kind: api.Dir}, codec.Record{Version: 1, Links: 2, Kind: api.Dir}},
		{"the same version", codec.Slot{At: 9, Version: 4, Links: 1, Kind: api.File}, codec.Slot{At: 9, Version: 4, Links: 65535, Kind: api.File}, codec.Record{Version: 4, Links: 65535, Kind: api.File}},
		{"the same version, of another kind", codec.Slot{At: 9, Version: 4, Links: 1, Kind: api.File}, codec.Slot{At: 9, Version: 4, Kind: api.Dir}, codec.Record{Version: 4, Kind: api.Dir}},
		{"the same version, that was free", codec.Slot{At: 9, Version: 4}, codec.Slot{At: 9, Version: 4, Links: 1, Kind: api.File}, codec.Record{Version: 4, Links: 1, Kind: api.File}},
		{"the next version", codec.Slot{At: 9, Version: 4, Links: 1, Kind: api.File}, codec.Slot{Version: 5, Links: 1, Kind: api.File}, codec.Record{Version: 5, Links: 1, Kind: api.File}},
		{"an earlier version", codec.Slot{At: 9, Version: 4, Links: 1, Kind: api.File}, codec.Slot{Version: 3, Links: 1, Kind: api.File}, codec.Record{Version: 3, Links: 1, Kind: api.File}},
		{"free", codec.Slot{At: 9, Version: 4, Links: 1, Kind: api.File}, codec.Slot{Version: 4}, codec.Record{Version: 4, Links: 7, Kind: api.Free}},
		{"free, of another version", codec.Slot{At: 9, Version: 4, Links: 1, Kind: api.File}, codec.Slot{Version: math.MaxUint32}, codec.Record{Version: math.MaxUint32, Kind: api.Free}},
	}
	for _, x := range tests {
		d, m := made(t, some), imap.New(13)
		m.Set(13, x.ahead)
		m.Set(12, x.ahead)
		x.record.Num = 13
		d.Write(50, records(t, x.record))
		applies(t, d, m, api.OK, x.what, block(codec.Records, 0, 0, 50))
		slotIs(t, m, 13, x.slots, x.what)
		slotIs(t, m, 12, x.ahead, x.what+": another number")
	}
}

// P14.1: records come one behind the other, and all of them ahead of inodes; the other kinds are nothing.
func TestOrder(t *testing.T) {
	d, m := made(t, some), imap.New(13)
	m.Set(2, codec.Slot{At: 9, Version: 1, Links: 1, Kind: api.File})
	m.Set(3, codec.Slot{At: 8, Version: 1, Links: 1, Kind: api.File})
	m.Set(4, codec.Slot{At: 7, Version: 1, Links: 1, Kind: api.File})
	m.Set(5, codec.Slot{At: 6, Version: 1, Links: 1, Kind: api.Dir})
	d.Write(50, records(t, codec.Record{Num: 2, Version: 2, Links: 1, Kind: api.File}, codec.Record{Num: 3, Version: 2, Kind: api.Free}, codec.Record{Num: 6, Version: 1, Links: 1, Kind: api.File}))
	d.Write(51, records(t, codec.Record{Num: 2, Version: 3, Links: 5, Kind: api.Dir}, codec.Record{Num: 2, Version: 3, Links: 6, Kind: api.Dir}))
	applies(t, d, m, api.OK, "order",
		block(codec.Node, 2, 2, 60), block(codec.Node, 2, 3, 61), block(codec.Node, 3, 2, 62), block(codec.Node, 4, 2, 63), block(codec.Node, 6, 1, 64),
		block(codec.Records, 200, 9, 51-1), block(codec.Records, 0, 0, 51), block(codec.Node, 2, 2, 65),
		block(codec.Data, 5, 1, 66), block(codec.Single, 5, 1, 67), block(codec.Double, 5, 1, 68), block(codec.Leaf, 5, 1, 69), block(0, 5, 1, 70), block(7, 5, 1, 71), block(codec.Data, 99, 1, 99999),
		block(codec.Node, 6, 1, 72), block(codec.Node, 6, 0, 73))
	slotIs(t, m, 2, codec.Slot{At: 61, Version: 3, Links: 6, Kind: api.Dir}, "the last record's version")
	slotIs(t, m, 3, codec.Slot{Version: 2}, "free ones stand nowhere")
	slotIs(t, m, 4, codec.Slot{At: 7, Version: 1, Links: 1, Kind: api.File}, "another version")
	slotIs(t, m, 5, codec.Slot{At: 6, Version: 1, Links: 1, Kind: api.Dir}, "no inode")
	slotIs(t, m, 6, codec.Slot{At: 72, Version: 1, Links: 1, Kind: api.File}, "the last inode of the version")
}

// P14.1: what is wrong in a batch: in the order in which it is gone through.
func TestApplyErrors(t *testing.T) {
	d := made(t, some)
	d.Write(50, records(t, codec.Record{Num: 14, Kind: api.Free}))
	d.Write(51, records(t, codec.Record{Num: 1, Kind: api.Free}, codec.Record{Num: 0, Kind: api.File}))
	d.Write(52, records(t, codec.Record{Num: 65535, Kind: api.Dir}))
	slots, _ := codec.WriteSlots()
	d.Write(53, slots)
	d.Write(54, records(t))
	for _, x := range []struct {
		what string
		want api.Errno
		list []slog.Found
	}{
		{"number 14", api.ErrForm, []slog.Found{block(codec.Records, 1, 1, 50)}},
		{"number 0", api.ErrForm, []slog.Found{block(codec.Records, 1, 1, 51)}},
		{"number 65535", api.ErrForm, []slog.Found{block(codec.Records, 1, 1, 52)}},
		{"no records", api.ErrForm, []slog.Found{block(codec.Records, 1, 1, 53)}},
		{"noughts", api.ErrForm, []slog.Found{block(codec.Records, 1, 1, 55)}},
		{"none of them", api.OK, []slog.Found{block(codec.Records, 1, 1, 54)}},
		{"inode 0", api.ErrForm, []slog.Found{block(codec.Node, 0, 0, 60)}},
		{"inode 14", api.ErrForm, []slog.Found{block(codec.Node, 14, 0, 60)}},
		{"a far inode", api.ErrForm, []slog.Found{block(codec.Node, math.MaxUint32, 0, 60)}},
		{"inode 13", api.OK, []slog.Found{block(codec.Node, 13, 0, 60)}},
		{"no sector", api.ErrInval, []slog.Found{block(codec.Records, 1, 1, some.Sectors())}},
		{"below", api.ErrInval, []slog.Found{block(codec.Records, 1, 1, -1)}},
		{"far off", api.ErrInval, []slog.Found{block(codec.Records, 1, 1, math.MaxInt)}},
		{"the first one of two", api.ErrForm, []slog.Found{block(codec.Records, 1, 1, 50), block(codec.Records, 1, 1, -1)}},
		{"the first one of two", api.ErrInval, []slog.Found{block(codec.Records, 1, 1, -1), block(codec.Records, 1, 1, 50)}},
		{"records first", api.ErrInval, []slog.Found{block(codec.Node, 14, 0, 60), block(codec.Records, 1, 1, -1)}},
		{"nothing", api.OK, nil},
	} {
		applies(t, d, imap.New(13), x.want, x.what, x.list...)
	}
	d.Arm(0)
	d.Flush()
	applies(t, d, imap.New(13), api.ErrIo, "a dead disk", block(codec.Records, 1, 1, 54), block(codec.Records, 1, 1, 50))
	applies(t, d, imap.New(13), api.OK, "a dead disk that isn't asked", block(codec.Node, 1, 1, 54))
}

// P1: an inode that is said to stand where no sector is.
func TestApplyFar(t *testing.T) {
	d := made(t, some)
	for _, at := range []int{math.MinInt, -1, 0, 65535, 65536, math.MaxInt} {
		m := imap.New(13)
		m.Set(2, codec.Slot{At: 9, Version: 1, Links: 1, Kind: api.File})
		want, stands := api.OK, at
		if at < 0 || at > 65535 {
			want, stands = api.ErrInval, 9
		}
		applies(t, d, m, want, "far off", block(codec.Node, 2, 1, at))
		slotIs(t, m, 2, codec.Slot{At: stands, Version: 1, Links: 1, Kind: api.File}, "far off")
	}
}

// rolls: and nothing that was handed in is another one; twice is as once.
func rolls(t *testing.T, d *disk.Disk, g geom.Geom, s ckpt.State) (ckpt.State, []slog.Batch) {
	t.Helper()
	before, was := d.Twin(), show(s)
	x, list, e := roll.Roll(d, g, s)
	if e != api.OK {
		t.Fatalf("P14.2: Roll = %v", e)
	}
	y, again, e := roll.Roll(d, g, s)
	if e != api.OK || !same(show(y), show(x)) || !reflect.DeepEqual(again, list) {
		t.Errorf("P14.3: twice: %+v, %v; once: %+v", show(y), e, show(x))
	}
	y, again, e = roll.Roll(d, g, x)
	if e != api.OK || !same(show(y), show(x)) || len(again) != 0 {
		t.Errorf("P14.3: behind it: %+v, %v; once: %+v", show(y), e, show(x))
	}
	x.Map.Set(1, codec.Slot{Version: 77})
	x.Table.Set(0, usage.Held)
	x.Table.Touch(1, math.MaxUint32)
	for _, b := range list {
		clear(b.Segs)
		clear(b.List)
	}
	if !d.Same(before) || d.Deeds() != before.Deeds() || !same(show(s), was) {
		t.Errorf("P14.3: Roll changed what it was handed")
	}
	x, list, _ = roll.Roll(d, g, s)
	return x, list
}

// P14.2: of a checkpoint with nothing behind it: the same state, no batches.
func TestExample(t *testing.T) {
	r := rand.New(rand.NewSource(1))
	for group := range 3 {
		d := made(t, some)
		p := slog.Place{Seg: 4, Group: group, Next: 9, Seq: 5}
		s := state(t, r, some, p)
		for seg := range some.Segs {
			s.Table.Set(seg, []int{usage.Clean, usage.Dirty, usage.Held}[r.Intn(3)])
		}
		s.Table.Set(4, usage.Open)
		s.Table.Set(9, usage.Open)
		if x, list := rolls(t, d, some, s); !same(show(x), show(s)) || len(list) != 0 {
			t.Errorf("P14.2: Roll = %+v, %v; want %+v", show(x), list, show(s))
		}
	}
}

// P14.2: what is Open becomes Dirty, wherever it is, but where the log goes on.
func TestOpen(t *testing.T) {
	d := made(t, some)
	s := ckpt.State{Serial: 4, Place: slog.Place{Seg: 3, Group: 1, Next: 8, Seq: 10}, Time: 6, Map: imap.New(13), Table: usage.New(20, 16)}
	for seg, open := range map[int]int{1: usage.Open, 2: usage.Held, 3: usage.Clean, 4: usage.Dirty, 5: usage.Held, 6: usage.Open, 8: usage.Held} {
		s.Table.Set(seg, open)
	}
	for seg := range 20 {
		s.Table.Touch(seg, 50)
		s.Table.Count(seg, seg%16)
	}
	wants := func(x ckpt.State, dirty, open []int) {
		t.Helper()
		for seg, u := range x.Table.Uses() {
			old, _ := s.Table.Get(seg)
			want := old.State
			if slices.Contains(dirty, seg) {
				want = usage.Dirty
			}
			if slices.Contains(open, seg) {
				want = usage.Open
			}
			if u.State != want || u.Live != seg%16 || u.Age != 50 && u.Age != 60 {
				t.Errorf("P14.2: segment %d: %+v; was %+v", seg, u, old)
			}
		}
	}
	x, _ := rolls(t, d, some, s)
	wants(x, []int{1, 6}, []int{3, 8})
	if _, e := slog.Append(d, some, s.Place, []int{5, 1, 7}, 60, seventeen(codec.Data)...); e != api.OK {
		t.Fatalf("no batch: %v", e)
	}
	x, list := rolls(t, d, some, s)
	wants(x, []int{1, 3, 6}, []int{8, 5})
	if len(list) != 1 || !slices.Equal(list[0].Segs, []int{3, 8}) || x.Time != 60 || x.Place != (slog.Place{Seg: 8, Group: 2, Next: 5, Seq: 13}) {
		t.Errorf("P14.2: %v, %+v", list, show(x))
	}
	for _, seg := range []int{3, 8, 5, 1} {
		want := uint32(50)
		if seg == 3 || seg == 8 {
			want = 60
		}
		if u, _ := x.Table.Get(seg); u.Age != want {
			t.Errorf("P14.2: segment %d: age %d; want %d", seg, u.Age, want)
		}
	}
	if _, e := slog.Append(d, some, x.Place, []int{1, 7}, 40, seventeen(codec.Data)...); e != api.OK {
		t.Fatalf("no batch: %v", e)
	}
	x, list = rolls(t, d, some, s)
	wants(x, []int{3, 5, 6, 8}, []int{1, 7})
	for _, seg := range []int{5, 1} {
		if u, _ := x.Table.Get(seg); u.Age != 50 {
			t.Errorf("P14.2: segment %d: age %d", seg, u.Age)
		}
	}
	if len(list) != 2 || x.Time != 40 || x.Serial != 4 {
		t.Errorf("P14.2: %d batches, Time %d, Serial %d: the last batch tells the time, though it is an earlier one", len(list), x.Time, x.Serial)
	}
}

// seventeen are as many blocks, for which three groups are needed.
func seventeen(kind int) []slog.Item {
	list := make([]slog.Item, 17)
	for i := range list {
		list[i].Entry = codec.Entry{Kind: kind, Num: 1, Index: i}
	}
	return list
}

// batch is one of records and other blocks, in any order; it is told to slots as the document has it.
func batch(t *testing.T, r *rand.Rand, slots []codec.Slot) ([]slog.Item, func(l slog.Layout)) {
	t.Helper()
	num := func() uint32 { return uint32(1 + r.Intn(len(slots))) }
	items := make([]slog.Item, 1+r.Intn(25))
	var all []codec.Record
	for i := range items {
		if r.Intn(5) > 0 {
			items[i].Entry = codec.Entry{Kind: codec.Data + r.Intn(5), Num: num(), Version: uint32(r.Intn(3))}
			continue
		}
		var list []codec.Record
		for range r.Intn(8) {
			list = append(list, codec.Record{Num: num(), Version: uint32(r.Intn(3)), Links: r.Intn(3), Kind: r.Intn(3)})
		}
		all = append(all, list...)
		items[i] = slog.Item{Entry: codec.Entry{Kind: codec.Records}, Data: records(t, list...)}
	}
	return items, func(l slog.Layout) {
		for _, x := range all {
			old := slots[x.Num-1]
			now := codec.Slot{Version: x.Version}
			if x.Kind != api.Free {
				now = codec.Slot{Version: x.Version, Links: x.Links, Kind: x.Kind}
				if old.Version == x.Version {
					now.At = old.At
				}
			}
			slots[x.Num-1] = now
		}
		for i, x := range items {
			if slot := &slots[max(x.Entry.Num, 1)-1]; x.Entry.Kind == codec.Node && slot.Kind != api.Free && slot.Version == x.Entry.Version {
				slot.At = l.At[i]
			}
		}
	}
}

// P14.2: some batches, of which the last one may have got lost: what Roll answers is what they come to.
func TestRoll(t *testing.T) {
	r := rand.New(rand.NewSource(2))
	for range 150 {
		g := []geom.Geom{some, {Segs: 14, Groups: 1, Inodes: 5}, {Segs: 30, Groups: 3, Inodes: 25}}[r.Intn(3)]
		d := made(t, g)
		segs := r.Perm(g.Segs)
		s := state(t, r, g, slog.Place{Seg: segs[0], Group: r.Intn(g.Groups + 1), Next: segs[1], Seq: r.Uint64() >> 1})
		want, free := show(s), segs[2:]
		var touched [][]int
		var times []uint32
		for range r.Intn(4) {
			items, tell := batch(t, r, want.slots)
			time := uint32(r.Intn(60))
			l, e := slog.Append(d, g, want.place, free, time, items...)
			if e == api.ErrNospc {
				break
			}
			if e != api.OK {
				t.Fatalf("no batch: %v", e)
			}
			tell(l)
			want.place, want.time, free = l.End, time, free[l.Took:]
			var list []int
			for _, at := range l.At {
				seg, _, _, _ := g.Where(at)
				list = append(list, seg)
			}
			touched, times = append(touched, list), append(times, time)
		}
		if items, _ := batch(t, r, slices.Clone(want.slots)); r.Intn(2) == 0 {
			d.Arm(len(items))
			slog.Append(d, g, want.place, free, 99, items...)
			d.Crash()
		}
		marks(want.uses, want.place, touched, times)
		x, list := rolls(t, d, g, s)
		if !same(show(x), want) || len(list) != len(touched) {
			t.Fatalf("P14.2: Roll = %+v, %d batches; want %+v, %d", show(x), len(list), want, len(touched))
		}
		scanned, _, _ := slog.Scan(d, g, s.Place)
		if !reflect.DeepEqual(list, scanned) {
			t.Errorf("P14.2: batches %v; want %v", list, scanned)
		}
		orphans(t, x.Map)
	}
}

// marks tells uses what batches made of them.
func marks(uses []codec.Use, end slog.Place, touched [][]int, times []uint32) {
	for i := range uses {
		if uses[i].State == usage.Open {
			uses[i].State = usage.Dirty
		}
	}
	for i, list := range touched {
		for _, seg := range list {
			uses[seg].State = usage.Dirty
			uses[seg].Age = max(uses[seg].Age, times[i])
		}
	}
	uses[end.Seg].State = usage.Open
	uses[end.Next].State = usage.Open
}

func orphans(t *testing.T, m *imap.Map) {
	t.Helper()
	before := m.Slots()
	var want []int
	for i, s := range before {
		if s.Kind != api.Free && s.Links == 0 {
			want = append(want, i+1)
		}
	}
	got := roll.Orphans(m)
	if !slices.Equal(got, want) {
		t.Errorf("P14.4: Orphans = %v; want %v", got, want)
	}
	clear(got)
	if !slices.Equal(roll.Orphans(m), want) || !slices.Equal(m.Slots(), before) {
		t.Errorf("P14.4: Orphans changed the map")
	}
}

// P14.4: those that have no links, and aren't free.
func TestOrphans(t *testing.T) {
	m := imap.New(13)
	orphans(t, m)
	for num := 1; num <= 13; num++ {
		m.Set(num, codec.Slot{At: 7, Version: 3, Links: []int{0, 1, 65535}[num%3], Kind: num % 4 % 3})
	}
	orphans(t, m)
	if got := roll.Orphans(m); !slices.Equal(got, []int{6, 9}) {
		t.Errorf("P14.4: Orphans = %v", got)
	}
	orphans(t, imap.New(1))
	orphans(t, imap.New(200))
}

func rollFails(t *testing.T, d *disk.Disk, g geom.Geom, s ckpt.State, want api.Errno, what string) {
	t.Helper()
	before := d.Twin()
	if x, list, e := roll.Roll(d, g, s); x != (ckpt.State{}) || list != nil || e != want || !d.Same(before) {
		t.Errorf("P14.2: %s: Roll = %+v, %v, %v; want %v", what, x, list, e, want)
	}
}

// P14.2: the errors of Scan and Apply.
func TestRollErrors(t *testing.T) {
	r := rand.New(rand.NewSource(3))
	p := slog.Place{Seg: 0, Group: 0, Next: 1, Seq: 1}
	d := made(t, some)
	for _, bad := range []slog.Place{{}, {Seg: -1, Next: 1}, {Seg: 20, Next: 1}, {Seg: 1, Next: 20}, {Seg: 1, Next: 1}, {Seg: 1, Next: 2, Group: 3}, {Seg: 1, Next: 2, Group: -1}} {
		rollFails(t, d, some, state(t, r, some, bad), api.ErrInval, "Place")
	}
	small, _ := disk.New(some.Summary(0, 0))
	rollFails(t, small, some, state(t, r, some, p), api.ErrInval, "a disk that is too small")
	dead := made(t, some)
	dead.Arm(0)
	dead.Flush()
	rollFails(t, dead, some, state(t, r, some, p), api.ErrIo, "a dead disk")
	rollFails(t, dead, some, state(t, r, some, slog.Place{}), api.ErrInval, "a dead disk, and no Place")
	for _, item := range []slog.Item{{Entry: codec.Entry{Kind: codec.Records}}, {Entry: codec.Entry{Kind: codec.Records}, Data: records(t, codec.Record{Num: 14})}, {Entry: codec.Entry{Kind: codec.Node, Num: 14}}} {
		d := made(t, some)
		l, e := slog.Append(d, some, p, nil, 5, slog.Item{Entry: codec.Entry{Kind: codec.Data}})
		if e != api.OK {
			t.Fatalf("no batch: %v", e)
		}
		if _, e := slog.Append(d, some, l.End, []int{5}, 5, item); e != api.OK {
			t.Fatalf("no batch: %v", e)
		}
		s := state(t, r, some, p)
		was := show(s)
		rollFails(t, d, some, s, api.ErrForm, "a batch that can't be made good, behind one that can")
		if !same(show(s), was) {
			t.Errorf("P14.3: Roll changed what it was handed")
		}
	}
}

// P1: states that aren't of the geometry.
func TestRollOdd(t *testing.T) {
	r := rand.New(rand.NewSource(4))
	p := slog.Place{Seg: 3, Group: 0, Next: 18, Seq: 1}
	d := made(t, some)
	if _, e := slog.Append(d, some, p, []int{7}, 5, seventeen(codec.Data)...); e != api.OK {
		t.Fatalf("no batch: %v", e)
	}
	good := state(t, r, some, p)
	for _, s := range []ckpt.State{{}, {Place: p}, {Place: p, Map: good.Map}, {Place: p, Table: good.Table}, {Place: p, Map: good.Map, Table: &usage.Table{}}, {Place: p, Map: &imap.Map{}, Table: good.Table}} {
		rollFails(t, d, some, s, api.ErrInval, "no map, or no table")
	}
	for segs := 1; segs < 25; segs++ {
		s := good
		s.Table = usage.New(segs, 16)
		if segs < 19 {
			rollFails(t, d, some, s, api.ErrInval, "a table of too few segments")
		} else if x, _ := rolls(t, d, some, s); x.Table.Segs() != segs {
			t.Errorf("P14.2: of %d segments: %d", segs, x.Table.Segs())
		}
	}
	s := good
	s.Map = imap.New(200)
	if x, _ := rolls(t, d, some, s); x.Map.Size() != 200 {
		t.Errorf("P14.2: of 200 inodes: %d", x.Map.Size())
	}
	s = good
	s.Table = usage.New(20, 4096)
	s.Table.Count(5, 4096)
	if x, _ := rolls(t, d, some, s); x.Table.Live() != 4096 {
		t.Errorf("P14.2: %d are live", x.Table.Live())
	}
	for _, g := range []geom.Geom{{}, {Segs: -1, Groups: -1, Inodes: -1}, {Segs: 20, Groups: 0, Inodes: 13}, {Segs: math.MaxInt, Groups: math.MaxInt, Inodes: math.MaxInt}, {Segs: math.MinInt, Groups: math.MinInt, Inodes: math.MinInt}} {
		roll.Roll(d, g, good)
	}
}

// P14.2: the table that is answered has the geometry's room.
func TestRoom(t *testing.T) {
	d := made(t, some)
	s := ckpt.State{Place: slog.Place{Next: 1}, Map: imap.New(13), Table: usage.New(20, 16)}
	x, _ := rolls(t, d, some, s)
	if x.Table.Count(3, 17) != api.ErrInval || x.Table.Count(3, 16) != api.OK {
		t.Errorf("P14.2: the table has another room than %d", some.Cap())
	}
}
