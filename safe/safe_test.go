package safe_test

import (
	"slices"
	"testing"

	"drumlin/api"
	"drumlin/disk"
	"drumlin/safe"
)

func write(at int, b byte) safe.Write {
	return safe.Write{At: at, Sector: api.Sector{b}}
}

// Each step's writes go in their order, and are flushed ahead of the next step's.
func TestPut(t *testing.T) {
	steps := [][]safe.Write{{write(3, 1), write(0, 2), write(3, 3)}, nil, {write(1, 4)}}
	queues := [][]int{{3}, {3, 0}, {3, 0, 3}, {3, 0, 3}, {}, {1}, {1}}
	for deeds := range len(queues) + 1 {
		d, _ := disk.New(4)
		d.Arm(deeds)
		e := safe.Put(d, steps...)
		if deeds == len(queues) {
			if e != api.OK || len(d.Queue()) != 0 || d.Deeds() != len(queues) {
				t.Errorf("Put = %v, queue %v, %d deeds", e, d.Queue(), d.Deeds())
			}
		} else if e != api.ErrIo || !slices.Equal(d.Queue(), queues[deeds]) {
			t.Errorf("behind %d deeds: Put = %v, queue %v; want %v", deeds, e, d.Queue(), queues[deeds])
		}
		d.Crash()
		if s, _ := d.Read(3); deeds > 3 && s != (api.Sector{3}) {
			t.Errorf("behind %d deeds: the first step isn't safe", deeds)
		}
	}
}

// A sector that there isn't, in whichever step, is told ahead of any write, and ahead of a dead disk.
func TestPutNowhere(t *testing.T) {
	for _, at := range []int{-1, 4, 1 << 40} {
		for step := range 3 {
			for _, dead := range []bool{false, true} {
				steps := [][]safe.Write{{write(0, 1)}, {write(1, 2)}, {write(2, 3)}}
				steps[step] = append(steps[step], write(at, 4))
				d, _ := disk.New(4)
				if dead {
					d.Arm(0)
					d.Flush()
				}
				before := d.Twin()
				if e := safe.Put(d, steps...); e != api.ErrInval || !d.Same(before) || d.Deeds() != 0 {
					t.Errorf("Put to %d in step %d = %v", at, step, e)
				}
			}
		}
	}
}
