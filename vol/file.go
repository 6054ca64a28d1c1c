package vol

import (
	"drumlin/api"
	"drumlin/codec"
	"drumlin/node"
)

// New: a file.
func (v *Vol) New(kind int) (int, api.Errno) {
	num, version, e := v.slots.Alloc(kind)
	if e != api.OK {
		return 0, e
	}
	v.add(num, node.New(uint32(num), version, kind))
	return num, api.OK
}

// add: a file is there.
func (v *Vol) add(num int, file *node.Node) {
	v.files[num] = file
	v.cost += file.Cost()
}

// Delete: it is gone. Its sectors are live till that is flushed.
func (v *Vol) Delete(num int) api.Errno {
	if num == api.Root {
		return api.ErrBusy
	}
	if e := v.slots.Release(num); e != api.OK {
		return e
	}
	file := v.files[num]
	v.gone = append(v.gone, file.Sectors()...)
	v.cost -= file.Cost()
	delete(v.files, num)
	return api.OK
}

// Link: it has more names.
func (v *Vol) Link(num, n int) (int, api.Errno) { return v.slots.Link(num, n) }

// Slot: of the inode map.
func (v *Vol) Slot(num int) (codec.Slot, api.Errno) { return v.slots.Get(num) }

// Used: the numbers that aren't free.
func (v *Vol) Used() []int { return v.slots.Used() }

// file: of a number.
func (v *Vol) file(num int) (*node.Node, api.Errno) {
	if _, e := v.slots.Get(num); e != api.OK {
		return nil, e
	}
	file, ok := v.files[num]
	if !ok {
		return nil, api.ErrNoent
	}
	return file, api.OK
}

// ask: what the file of a number is.
func ask[T any](v *Vol, num int, of func(file *node.Node) T) (T, api.Errno) {
	file, e := v.file(num)
	if e != api.OK {
		var none T
		return none, e
	}
	return of(file), api.OK
}

// Size: of a file.
func (v *Vol) Size(num int) (int, api.Errno) { return ask(v, num, (*node.Node).Size) }

// Marked: its time.
func (v *Vol) Marked(num int) (uint32, api.Errno) { return ask(v, num, (*node.Node).Time) }

// Indexes: the blocks that it has.
func (v *Vol) Indexes(num int) ([]int, api.Errno) { return ask(v, num, (*node.Node).Indexes) }

// Read: its bytes.
func (v *Vol) Read(num, at, size int) ([]byte, api.Errno) {
	file, e := v.file(num)
	if e != api.OK {
		return nil, e
	}
	return file.Read(at, size, v.disk.Read)
}

// change: something is done to a file, by which it may cost another number of blocks.
func (v *Vol) change(num int, do func(file *node.Node) api.Errno) api.Errno {
	file, e := v.file(num)
	if e != api.OK {
		return e
	}
	was := file.Cost()
	e = do(file)
	v.cost += file.Cost() - was
	return e
}

// Write: other bytes.
func (v *Vol) Write(num, at int, b []byte) api.Errno {
	return v.change(num, func(file *node.Node) api.Errno { return file.Write(at, b, v.disk.Read) })
}

// Truncate: another size.
func (v *Vol) Truncate(num, size int) api.Errno {
	return v.change(num, func(file *node.Node) api.Errno { return file.Truncate(size, v.disk.Read) })
}

// Mark: another time.
func (v *Vol) Mark(num int, time uint32) api.Errno {
	file, e := v.file(num)
	if e == api.OK {
		file.SetTime(time)
	}
	return e
}

// Cost: of all files.
func (v *Vol) Cost() int { return v.cost }
