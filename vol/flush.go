package vol

import (
	"maps"
	"slices"

	"drumlin/api"
	"drumlin/ckpt"
	"drumlin/codec"
	"drumlin/node"
	"drumlin/pick"
	"drumlin/slog"
	"drumlin/usage"
)

const perSector = 13 // records

// Flush: all is in the log.
func (v *Vol) Flush() api.Errno {
	if e := v.refusal(); e != api.OK {
		return e
	}
	return v.fail(v.flush())
}

// Checkpoint: and is found at once.
func (v *Vol) Checkpoint() api.Errno {
	if e := v.Flush(); e != api.OK {
		return e
	}
	return v.fail(v.checkpoint())
}

// refusal: why nothing may be written.
func (v *Vol) refusal() api.Errno {
	if v.broken {
		return api.ErrIo
	}
	if v.cost > v.geom.Room() {
		return api.ErrNospc
	}
	return api.OK
}

// fail: behind an error of the disk nobody knows what stands there, so nothing more is written.
func (v *Vol) fail(e api.Errno) api.Errno {
	v.broken = v.broken || e != api.OK && e != api.ErrNospc
	return e
}

// checkpoint: of what was flushed last.
func (v *Vol) checkpoint() api.Errno {
	next := v.last
	next.Serial++
	next.Table = v.table()
	next.Table.Release()
	e := ckpt.Write(v.disk, v.geom, next)
	if e == api.OK {
		v.last = next
	}
	return e
}

// table: another one like that of what was flushed last.
func (v *Vol) table() *usage.Table {
	t, _ := usage.Load(v.geom.Cap(), v.last.Table.Uses()...) // all that a table has it takes
	return t
}

// flush: one batch. As much is moved with it as must be, so that behind it there is room for the next one, however great that is:
// what is moved in a batch of its own might not come to its end before the disk dies.
func (v *Vol) flush() api.Errno {
	for v.changed() {
		x, e := v.draft()
		if e == api.ErrNospc && v.idle() {
			if e := v.checkpoint(); e != api.OK {
				return e
			}
			continue
		}
		if e != api.OK {
			return e
		}
		moved, e := v.move(v.crowded(x)...)
		if e != api.OK {
			return e
		}
		if moved == 0 {
			return v.write(x)
		}
	}
	return api.OK
}

// changed: is anything not as it was flushed last?
func (v *Vol) changed() bool {
	return len(v.records()) > 0 || len(v.pending()) > 0
}

// pending: the numbers of files of which something is to be written, rising: each such has an inode that isn't live any more where it stands.
func (v *Vol) pending() []int {
	return slices.DeleteFunc(v.Used(), func(num int) bool {
		slot, _ := v.slots.Get(num)
		return v.files[num].Live(codec.Entry{Kind: codec.Node, Num: uint32(num), Version: slot.Version}, slot.At)
	})
}

// records: of the slots that aren't as they were. (Where they stand is told by the inodes, and is as it was where all else is.)
func (v *Vol) records() []slog.Item {
	var list []codec.Record
	old := v.last.Map.Slots()
	for i, s := range v.slots.Slots() {
		if s != old[i] {
			list = append(list, codec.Record{Num: uint32(i + 1), Version: s.Version, Links: s.Links, Kind: s.Kind})
		}
	}
	var items []slog.Item
	for some := range slices.Chunk(list, perSector) {
		s, _ := codec.WriteRecords(some...) // all that a map has it takes
		items = append(items, slog.Item{Entry: codec.Entry{Kind: codec.Records, Index: len(items)}, Data: s})
	}
	return items
}

// idle: is there a segment that a checkpoint would make Clean?
func (v *Vol) idle() bool {
	return len(v.table().Release()) > 0
}

// in: the segments of a table that are in this state.
func in(t *usage.Table, state int) []int {
	return pick.Places(t.Uses(), func(x codec.Use) bool { return x.State == state })
}

// draft: a batch, and what the volume is behind it.
type draft struct {
	items []slog.Item
	files map[int]*node.Node // those that are in it
	state ckpt.State
}

// draft: all that changed, where the log goes on. The volume doesn't change by it.
func (v *Vol) draft() (*draft, api.Errno) {
	x := &draft{items: v.records(), files: map[int]*node.Node{}}
	nums, size := v.pending(), len(x.items)
	for _, num := range nums {
		size += len(v.files[num].Pending())
	}
	l, e := slog.Plan(v.geom, v.last.Place, in(v.last.Table, usage.Clean), size)
	if e != api.OK {
		return nil, e
	}
	x.state = ckpt.State{Serial: v.last.Serial, Place: l.End, Time: v.time, Map: twin(v.slots), Table: v.table()}
	dead := slices.Clone(v.gone)
	for _, num := range nums {
		some, e := x.take(num, v.files[num].Clone(), l.At[len(x.items):])
		if e != api.OK {
			return nil, e
		}
		dead = append(dead, some...)
	}
	v.fill(x, l, dead)
	return x, api.OK
}

// take: what is pending of a file goes to the first of these sectors, its inode last. The sectors that are dead then.
func (x *draft) take(num int, file *node.Node, at []int) ([]int, api.Errno) {
	at = at[:len(file.Pending())]
	items, dead, e := file.Commit(at...)
	if e != api.OK {
		return nil, e
	}
	slot, _ := x.state.Map.Get(num)
	slot.At = at[len(at)-1]
	x.state.Map.Set(num, slot)
	x.items = append(x.items, items...)
	x.files[num] = file
	return dead, api.OK
}

// fill: what the segments are filled with behind a batch. (Records are needed till the next checkpoint alone: they don't count.)
func (v *Vol) fill(x *draft, l slog.Layout, dead []int) {
	t := x.state.Table
	for _, seg := range in(t, usage.Open) {
		t.Set(seg, usage.Dirty)
	}
	for i, at := range l.At {
		seg, _, _, _ := v.geom.Where(at)
		t.Set(seg, usage.Dirty)
		t.Touch(seg, v.time)
		if x.items[i].Entry.Kind != codec.Records {
			t.Count(seg, 1)
		}
	}
	v.count(t, -1, dead...)
	t.Set(l.End.Seg, usage.Open)
	t.Set(l.End.Next, usage.Open)
}

// write: a draft comes to the disk.
func (v *Vol) write(x *draft) api.Errno {
	_, e := slog.Append(v.disk, v.geom, v.last.Place, in(v.last.Table, usage.Clean), v.time, x.items...)
	if e != api.OK {
		return e
	}
	maps.Copy(v.files, x.files)
	v.slots, v.last, v.gone = twin(x.state.Map), x.state, nil
	return api.OK
}
