// Package safe is what layers 11 and 12 write through: what is to be on the disk wholly or not at all goes there in steps, each of which is safe ahead of the next one.
package safe

import (
	"drumlin/api"
	"drumlin/disk"
)

// Write: what is to stand at a sector.
type Write struct {
	At     int
	Sector api.Sector
}

// Put: step by step its writes, then a flush. Whether the disk has all the sectors is asked ahead, so that it is left as it was if it hasn't.
func Put(d *disk.Disk, steps ...[]Write) api.Errno {
	for _, step := range steps {
		if !fits(d, step) {
			return api.ErrInval
		}
	}
	for _, step := range steps {
		if e := put(d, step); e != api.OK {
			return e
		}
	}
	return api.OK
}

// fits: has the disk these sectors?
func fits(d *disk.Disk, step []Write) bool {
	for _, w := range step {
		if w.At < 0 || w.At >= d.Size() {
			return false
		}
	}
	return true
}

// put: one step.
func put(d *disk.Disk, step []Write) api.Errno {
	for _, w := range step {
		if e := d.Write(w.At, w.Sector); e != api.OK {
			return e
		}
	}
	return d.Flush()
}
