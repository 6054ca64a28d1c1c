package clean_test

import (
	"bytes"
	"math"
	"math/rand"
	"reflect"
	"slices"
	"testing"

	"drumlin/api"
	"drumlin/clean"
	"drumlin/codec"
	"drumlin/disk"
	"drumlin/geom"
	"drumlin/usage"
	"drumlin/vol"
)

var geoms = []geom.Geom{{Segs: 10, Groups: 1, Inodes: 3}, {Segs: 14, Groups: 1, Inodes: 200}, {Segs: 14, Groups: 2, Inodes: 9}, {Segs: 20, Groups: 2, Inodes: 20}}

// aged: a volume with a file of some blocks, most of whose segments have something live, and what the file has.
func aged(t *testing.T, g geom.Geom, blocks, flushes int) (*disk.Disk, *vol.Vol, []byte) {
	t.Helper()
	d, _ := disk.New(g.Sectors())
	v, e := vol.Format(d, g, 1)
	if e != api.OK {
		t.Fatalf("P16.1: no volume: %v", e)
	}
	num, _ := v.New(api.File)
	v.Link(num, 1)
	r := rand.New(rand.NewSource(int64(flushes)))
	want := make([]byte, 128*blocks)
	r.Read(want)
	v.Write(num, 0, want)
	for i := range flushes {
		at := r.Intn(len(want))
		want[at] = byte(i)
		v.SetTime(uint32(i))
		v.Write(num, at, want[at:at+1])
		if e := v.Flush(); e != api.OK {
			t.Fatalf("P16.1: Flush with a cost of %d = %v", v.Cost(), e)
		}
	}
	return d, v, want
}

// has: is the file what it was, in memory and on the disk?
func has(t *testing.T, d *disk.Disk, v *vol.Vol, want []byte, what string) {
	t.Helper()
	if b, e := v.Read(2, 0, api.MaxSize); e != api.OK || !bytes.Equal(b, want) {
		t.Fatalf("P16.1: %s: Read = %d bytes, %v", what, len(b), e)
	}
	twin := d.Twin()
	twin.Crash()
	w, e := vol.Mount(twin)
	if e != api.OK {
		t.Fatalf("P16.1: %s: Mount = %v", what, e)
	}
	if b, e := w.Read(2, 0, api.MaxSize); e != api.OK || !bytes.Equal(b, want) || w.Cost() != v.Cost() {
		t.Fatalf("P16.1: %s: mounted: Read = %d bytes, %v", what, len(b), e)
	}
}

// need: how many segments must be clean.
func need(g geom.Geom) int {
	return g.Most() + (g.Chunks()+g.Cap()-1)/g.Cap() + 1
}

// byHand: what Run must do, call by call.
func byHand(v *vol.Vol, want, passes int) (clean.Report, api.Errno) {
	var r clean.Report
	was := v.Free()
	for range passes {
		dirty := slices.ContainsFunc(v.Uses(), func(x codec.Use) bool { return x.State == usage.Dirty })
		if v.Free() >= want || !dirty {
			break
		}
		k, e := v.Clean()
		if e != api.OK {
			return r, e
		}
		r.Passes, r.Moved = r.Passes+1, r.Moved+k
	}
	if e := v.Checkpoint(); e != api.OK {
		return r, e
	}
	r.Gained = v.Free() - was
	return r, api.OK
}

// P16.1, P16.2: Run makes the passes that it says, and no more; files stay, and enough segments are clean.
func TestRun(t *testing.T) {
	for _, g := range geoms {
		for _, x := range [][2]int{{0, 5}, {-1, 5}, {math.MinInt, math.MaxInt}, {99, 0}, {99, -1}, {99, math.MinInt}, {99, 1}, {99, 7}, {99, 60}, {g.Segs, 3}, {g.Segs / 2, 50}, {1, math.MaxInt}} {
			d, v, want := aged(t, g, g.Room()-6, 9+g.Segs)
			_, other, _ := aged(t, g, g.Room()-6, 9+g.Segs)
			v.Mark(2, 9)
			other.Mark(2, 9)
			r, e := clean.Run(v, x[0], x[1])
			hand, fault := byHand(other, x[0], max(0, min(x[1], 1000)))
			if e != api.OK || r != hand || e != fault || !reflect.DeepEqual(v.Uses(), other.Uses()) {
				t.Fatalf("P16.1: Run(%d, %d) = %+v, %v; want %+v, %v", x[0], x[1], r, e, hand, fault)
			}
			if r.Passes > max(0, x[1]) || r.Moved < 0 || v.Live() != v.Cost() {
				t.Errorf("P16.1: Run(%d, %d) = %+v", x[0], x[1], r)
			}
			if v.Free() < need(g) {
				t.Errorf("P16.2: Run(%d, %d): %d segments are clean; want %d", x[0], x[1], v.Free(), need(g))
			}
			has(t, d, v, want, "Run")
			if time, _ := v.Marked(2); time != 9 {
				t.Errorf("P16.1: Run: Marked = %d", time)
			}
		}
	}
}

// P16.1: passes gain segments: what lives in few blocks of many segments comes into few segments.
func TestGains(t *testing.T) {
	g := geom.Geom{Segs: 20, Groups: 2, Inodes: 9}
	_, v, _ := aged(t, g, 10, 0)
	for i := range 10 { // a segment for each two blocks
		v.Write(2, 128*i, []byte("x"))
		v.Flush()
	}
	v.Checkpoint()
	was := v.Free()
	r, e := clean.Run(v, g.Segs-4, 20)
	if e != api.OK || r.Gained != v.Free()-was || r.Gained < 2 || v.Free() < g.Segs-4 || r.Passes > 10 || r.Moved < r.Passes {
		t.Errorf("P16.1: Run = %+v, %v; %d segments are clean, %d were", r, e, v.Free(), was)
	}
	if r, e := clean.Run(v, v.Free(), 20); r != (clean.Report{}) || e != api.OK {
		t.Errorf("P16.1: Run where enough are clean = %+v, %v", r, e)
	}
}

// P16.1: wherever the disk dies in a Run: its report tells what was done ahead of that, and the files stay.
func TestRunDies(t *testing.T) {
	g := geom.Geom{Segs: 14, Groups: 2, Inodes: 9}
	for deeds := 0; ; deeds++ {
		d, v, want := aged(t, g, 30, 25)
		other, w, _ := aged(t, g, 30, 25)
		d.Arm(deeds)
		other.Arm(deeds)
		r, e := clean.Run(v, 99, 4)
		hand, fault := byHand(w, 99, 4)
		if r != hand || e != fault || e != api.OK && (e != api.ErrIo || r.Gained != 0) {
			t.Fatalf("P16.1: Run behind %d deeds = %+v, %v; want %+v, %v", deeds, r, e, hand, fault)
		}
		if e == api.OK {
			break
		}
		d.Crash()
		has(t, d, v, want, "Run that dies")
		if r, e := clean.Run(v, 99, 4); r != (clean.Report{}) || e != api.ErrIo {
			t.Fatalf("P16.1: Run of a volume that met an error = %+v, %v", r, e)
		}
		if k, e := clean.Pass(v, 1); k != 0 || e != api.ErrIo {
			t.Fatalf("P16.1: Pass of a volume that met an error = %d, %v", k, e)
		}
		if k, e := clean.Pass(v); k != 0 || e != api.OK {
			t.Fatalf("P16.1: Pass of none = %d, %v", k, e)
		}
	}
}

// P16.1: without room neither is done.
func TestNoRoom(t *testing.T) {
	g := geoms[2]
	d, v, _ := aged(t, g, 30, 20)
	v.Write(2, 0, make([]byte, 128*60))
	was := d.Deeds()
	for _, passes := range []int{0, 3} {
		if r, e := clean.Run(v, 99, passes); r != (clean.Report{}) || e != api.ErrNospc || d.Deeds() != was {
			t.Errorf("P16.1: Run without room = %+v, %v", r, e)
		}
	}
	if k, e := clean.Pass(v, 0); k != 0 || e != api.ErrNospc || d.Deeds() != was {
		t.Errorf("P16.1: Pass without room = %d, %v", k, e)
	}
}

// P16.1, P16.2: Pass moves what is live in the segments that are named, and nothing if there are none.
func TestPass(t *testing.T) {
	for _, g := range geoms {
		d, v, want := aged(t, g, g.Room()-6, 3*g.Segs)
		r := rand.New(rand.NewSource(3))
		for range 30 {
			v.Mark(2, uint32(r.Intn(3)))
			was := d.Deeds()
			if k, e := clean.Pass(v); k != 0 || e != api.OK || d.Deeds() != was {
				t.Fatalf("P16.1: Pass of none = %d, %v", k, e)
			}
			for _, bad := range []int{-1, g.Segs, math.MinInt, math.MaxInt} {
				if k, e := clean.Pass(v, 0, bad); k != 0 || e != api.ErrInval || d.Deeds() != was {
					t.Fatalf("P16.1: Pass(0, %d) = %d, %v", bad, k, e)
				}
			}
			v.Flush()
			segs := r.Perm(g.Segs)[:1+r.Intn(3)]
			live := 0
			for _, seg := range segs {
				if x := v.Uses()[seg]; x.State == usage.Dirty {
					live += x.Live
				}
			}
			if k, e := clean.Pass(v, segs...); k != live || e != api.OK || v.Live() != v.Cost() {
				t.Fatalf("P16.1: Pass(%v) = %d, %v; want %d", segs, k, e, live)
			}
			has(t, d, v, want, "Pass")
			if e := v.Checkpoint(); e != api.OK || v.Free() < need(g) {
				t.Fatalf("P16.2: behind Pass and Checkpoint (%v) %d segments are clean; want %d", e, v.Free(), need(g))
			}
		}
	}
}

// P16.3: the document's example, and what else segments may be filled with.
func TestFilled(t *testing.T) {
	uses := func(list ...int) []codec.Use { // Live and State
		var all []codec.Use
		for i := 0; i < len(list); i += 2 {
			all = append(all, codec.Use{Live: list[i], State: list[i+1], Age: uint32(i)})
		}
		return all
	}
	inf := math.Inf(1)
	for _, x := range []struct {
		uses         []codec.Use
		room         int
		filled       []float64
		waste, worst int
	}{
		{uses(4, 1, 0, 0), 16, []float64{0.25}, 12, 0},
		{nil, 16, nil, 0, -1},
		{uses(4, 0, 5, 2, 6, 3), 16, []float64{5.0 / 16}, 0, -1},
		{uses(4, 1, 16, 2, 6, 1, 6, 1, 5, 1), 16, []float64{0.25, 1, 6.0 / 16, 6.0 / 16, 5.0 / 16}, 12 + 10 + 10 + 11, 2},
		{uses(0, 2, 0, 1, 0, 1), 8, []float64{0, 0, 0}, 16, 1},
		{uses(17, 1, 16, 1, 3, 1), 16, []float64{17.0 / 16, 1, 3.0 / 16}, 13, 0},
		{uses(3, 2, 3, 1, 5, 1), 0, []float64{inf, inf, inf}, 0, 1},
		{uses(0, 1, 3, 1, 5, 1), 0, []float64{math.NaN(), inf, inf}, 0, 1},
		{uses(9, 0, 0, 1, 0, 1), 0, []float64{math.NaN(), math.NaN()}, 0, 1},
		{uses(1, 1, 2, 1), -4, []float64{-0.25, -0.5}, 0, 0},
		{uses(1, 1, 2, 9, 3, -1), 4, []float64{0.25}, 3, 0},
		{uses(1, 1), math.MinInt, []float64{1 / float64(math.MinInt)}, 0, 0},
	} {
		was := slices.Clone(x.uses)
		got := clean.Filled(x.uses, x.room)
		same := slices.EqualFunc(got, x.filled, func(a, b float64) bool { return a == b || a != a && b != b })
		if !same {
			t.Errorf("P16.3: Filled(%v, %d) = %v; want %v", x.uses, x.room, got, x.filled)
		}
		if n := clean.Waste(x.uses, x.room); n != x.waste {
			t.Errorf("P16.3: Waste(%v, %d) = %d; want %d", x.uses, x.room, n, x.waste)
		}
		if seg := clean.Worst(x.uses, x.room); seg != x.worst {
			t.Errorf("P16.3: Worst(%v, %d) = %d; want %d", x.uses, x.room, seg, x.worst)
		}
		if !slices.Equal(was, x.uses) {
			t.Errorf("P16.3: what was handed in is changed")
		}
	}
}
