package vol

import (
	"drumlin/api"
	"drumlin/ckpt"
	"drumlin/disk"
	"drumlin/geom"
	"drumlin/node"
	"drumlin/roll"
	"drumlin/usage"
)

// Mount: the one that lies there.
func Mount(d *disk.Disk) (*Vol, api.Errno) {
	super, e := d.Read(0)
	if e != api.OK {
		return nil, e
	}
	g, e := geom.Read(super)
	if e != api.OK {
		return nil, e
	}
	if d.Size() < g.Sectors() {
		return nil, api.ErrForm
	}
	s, e := ckpt.Read(d, g)
	if e != api.OK {
		return nil, e
	}
	s, _, e = roll.Roll(d, g, s)
	if e != api.OK {
		return nil, e
	}
	for _, num := range roll.Orphans(s.Map) {
		s.Map.Release(num)
	}
	v := open(d, g, s)
	if e := v.load(); e != api.OK {
		return nil, e
	}
	return v, api.OK
}

// load: all files, and how many blocks of each segment are theirs. (Behind a checkpoint its table doesn't tell that any more.)
func (v *Vol) load() api.Errno {
	owned := map[int]int{} // of which file each sector is
	for _, num := range v.slots.Used() {
		file, e := v.fetch(num)
		if e != api.OK {
			return e
		}
		for _, at := range file.Sectors() {
			if owned[at] != 0 || !v.written(at) {
				return api.ErrForm
			}
			owned[at] = num
		}
		v.add(num, file)
	}
	if root, e := v.slots.Get(api.Root); e != api.OK || root.Kind != api.Dir || v.cost > v.geom.Room() {
		return api.ErrForm
	}
	v.recount()
	return api.OK
}

// fetch: the file of a number, as it stands on the disk. One that hasn't as many sectors as it costs names some of them twice, or in vain.
func (v *Vol) fetch(num int) (*node.Node, api.Errno) {
	slot, _ := v.slots.Get(num)
	if !v.written(slot.At) {
		return nil, api.ErrForm
	}
	s, e := v.disk.Read(slot.At)
	if e != api.OK {
		return nil, e
	}
	file, e := node.Load(s, slot.At, v.disk.Read)
	if e != api.OK {
		return nil, e
	}
	if file.Num() != uint32(num) || file.Version() != slot.Version || file.Kind() != slot.Kind || file.Cost() != len(file.Sectors()) {
		return nil, api.ErrForm
	}
	return file, api.OK
}

// written: is this a block that the log has written, so that it won't write there before it is dead?
func (v *Vol) written(at int) bool {
	seg, group, _, ok := v.geom.Where(at)
	if !ok {
		return false
	}
	if p := v.last.Place; seg == p.Seg || seg == p.Next {
		return seg == p.Seg && group < p.Group
	}
	use, _ := v.last.Table.Get(seg)
	return use.State != usage.Clean
}

// recount: in each segment as many blocks are live as files have there.
func (v *Vol) recount() {
	for seg, use := range v.last.Table.Uses() {
		v.last.Table.Count(seg, -use.Live)
	}
	for _, file := range v.files {
		v.count(v.last.Table, 1, file.Sectors()...)
	}
}

// count: n blocks more are live at each of these sectors.
func (v *Vol) count(t *usage.Table, n int, sectors ...int) {
	for _, at := range sectors {
		seg, _, _, _ := v.geom.Where(at)
		t.Count(seg, n)
	}
}
