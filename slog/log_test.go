package slog_test

import (
	"math"
	"math/rand"
	"slices"
	"testing"

	"drumlin/api"
	"drumlin/codec"
	"drumlin/disk"
	"drumlin/geom"
	"drumlin/seal"
	"drumlin/slog"
)

// lay writes a summary where it should stand.
func lay(t *testing.T, d *disk.Disk, g geom.Geom, seg, group int, x codec.Summary) {
	t.Helper()
	s, e := codec.WriteSummary(x)
	if e != api.OK {
		t.Fatalf("no summary %+v: %v", x, e)
	}
	d.Write(g.Summary(seg, group), s)
}

// entry is one that tells by its Index which it is.
func entry(i int) codec.Entry {
	return codec.Entry{Kind: codec.Data, Num: 2, Version: 3, Index: i}
}

// wrong are the ways in which a summary doesn't go on, each of one that would.
var wrong = []struct {
	what   string
	change func(x *codec.Summary)
}{
	{"the number ahead", func(x *codec.Summary) { x.Seq-- }},
	{"the number behind", func(x *codec.Summary) { x.Seq++ }},
	{"number 0", func(x *codec.Summary) { x.Seq = 0 }},
	{"a far number", func(x *codec.Summary) { x.Seq += 1 << 32 }},
	{"the First ahead", func(x *codec.Summary) { x.First-- }},
	{"the First behind", func(x *codec.Summary) { x.First++ }},
	{"no First", func(x *codec.Summary) { x.First = 0 }},
	{"no segment", func(x *codec.Summary) { x.Next = 12 }},
	{"far off", func(x *codec.Summary) { x.Next = 65535 }},
}

// P11.2: of three groups, over two segments, one of which may not be: the batch is none, but what is ahead of it is there.
func TestWrongSummaries(t *testing.T) {
	for _, first := range []int{0, 1, 2} {
		for broken := range 3 {
			for _, w := range wrong {
				d, p := made(t, some), slog.Place{Seg: 3, Group: first, Next: 8, Seq: 10}
				lay(t, d, some, turn(some, p, []int{1, 6}, 0).seg, first%2, codec.Summary{Seq: 10, First: 10, Commit: true, Next: turn(some, p, []int{1, 6}, 0).next, Time: 4, Entries: []codec.Entry{entry(0)}})
				at := turn(some, p, []int{1, 6}, 0)
				want := []slog.Batch{{First: 10, Time: 4, Segs: []int{at.seg}, List: []slog.Found{{Entry: entry(0), At: some.Block(at.seg, at.group, 0)}}}}
				end := slog.Place{Seg: at.seg, Group: at.group + 1, Next: at.next, Seq: 11}
				for i := range 3 {
					x := codec.Summary{Seq: 11 + uint64(i), First: 11, Commit: i == 2, Next: turn(some, p, []int{1, 6}, i+1).next}
					if i == broken {
						w.change(&x)
					}
					lay(t, d, some, turn(some, p, []int{1, 6}, i+1).seg, turn(some, p, []int{1, 6}, i+1).group, x)
				}
				scans(t, d, some, p, want, end, "P11.2: "+w.what)
			}
		}
	}
}

// P11.2: a Next that is its own segment, or within a segment not the one that was told, ends the log; at the first group of a segment any other segment may be told.
func TestNext(t *testing.T) {
	g := geom.Geom{Segs: 11, Groups: 3, Inodes: 25}
	free := []int{1, 6, 0}
	for first := range g.Groups + 1 {
		for i := range 7 {
			for next := range 14 {
				d, p := made(t, g), slog.Place{Seg: 3, Group: first, Next: 8, Seq: 10}
				var want []slog.Batch
				end, on := p, true
				for k := range 7 {
					at := turn(g, p, free, k)
					told := at.next
					if k == i {
						told = next
						tells := at.group == 0 && (k > 0 || first == g.Groups) // p tells it of the segment where the log goes on
						on = on && next < g.Segs && next != at.seg && (tells || next == at.next)
					}
					seq := 10 + uint64(k)
					lay(t, d, g, at.seg, at.group, codec.Summary{Seq: seq, First: seq, Commit: true, Next: told})
					if on {
						want = append(want, slog.Batch{First: seq, Segs: []int{at.seg}})
						end = slog.Place{Seg: at.seg, Group: at.group + 1, Next: told, Seq: seq + 1}
					}
					on = on && told == at.next // else the next group tells another one
				}
				scans(t, d, g, p, want, end, "P11.2: Next")
			}
		}
	}
}

// P11.2: what isn't ended by a Commit is none, however many groups there are.
func TestNoCommit(t *testing.T) {
	d, p := made(t, some), slog.Place{Seg: 3, Group: 1, Next: 8, Seq: 10}
	free := []int{1, 6, 0, 2}
	scans(t, d, some, p, nil, p, "P11.2: an empty log")
	for i := range 6 {
		at := turn(some, p, free, i)
		lay(t, d, some, at.seg, at.group, codec.Summary{Seq: 10 + uint64(i), First: 10, Next: at.next, Time: uint32(i), Entries: []codec.Entry{entry(2 * i), entry(2*i + 1)}})
		scans(t, d, some, p, nil, p, "P11.2: no Commit")
	}
	at := turn(some, p, free, 6)
	lay(t, d, some, at.seg, at.group, codec.Summary{Seq: 16, First: 10, Commit: true, Next: at.next, Time: 3})
	want := slog.Batch{First: 10, Time: 3, Segs: []int{3, 8, 1, 6}}
	for i := range 12 {
		at := turn(some, p, free, i/2)
		want.List = append(want.List, slog.Found{Entry: entry(i), At: some.Block(at.seg, at.group, i%2)})
	}
	scans(t, d, some, p, []slog.Batch{want}, slog.Place{Seg: at.seg, Group: at.group + 1, Next: at.next, Seq: 17}, "P11.2: the groups needn't be full")
}

// P11.2: a segment is told once, also if the log comes to it again.
func TestSegsOnce(t *testing.T) {
	d, p := made(t, some), slog.Place{Seg: 3, Group: 1, Next: 8, Seq: 10}
	lay(t, d, some, 3, 1, codec.Summary{Seq: 10, First: 10, Next: 8})
	lay(t, d, some, 8, 0, codec.Summary{Seq: 11, First: 10, Next: 3})
	lay(t, d, some, 8, 1, codec.Summary{Seq: 12, First: 10, Next: 3})
	lay(t, d, some, 3, 0, codec.Summary{Seq: 13, First: 10, Next: 5, Commit: true})
	scans(t, d, some, p, []slog.Batch{{First: 10, Segs: []int{3, 8}}}, slog.Place{Seg: 3, Group: 1, Next: 5, Seq: 14}, "P11.2: a ring")
}

// P11.2: a log that goes over each group of the disk, and comes to where it began, ends there.
func TestRing(t *testing.T) {
	d, p := made(t, some), slog.Place{Seg: 0, Group: 0, Next: 1, Seq: math.MaxUint64 - 2}
	var want []slog.Batch
	for i := range some.Segs * some.Groups {
		seq := p.Seq + uint64(i)
		lay(t, d, some, i/2, i%2, codec.Summary{Seq: seq, First: seq, Commit: true, Next: (i/2 + 1) % some.Segs})
		want = append(want, slog.Batch{First: seq, Segs: []int{i / 2}})
	}
	scans(t, d, some, p, want, slog.Place{Seg: 11, Group: 2, Next: 0, Seq: 21}, "P11.2: all round")
}

// P11.2: what a summary stands for may be anything else.
func TestNoSummary(t *testing.T) {
	r := rand.New(rand.NewSource(11))
	x := codec.Summary{Seq: 10, First: 10, Commit: true, Next: 8}
	good, _ := codec.WriteSummary(x)
	_, body, _ := seal.Open(good)
	list := []api.Sector{{}}
	for kind := range 10 {
		if kind != 3 {
			s, _ := seal.Make(byte(kind), body)
			list = append(list, s)
		}
	}
	for range 200 {
		s := good
		s[r.Intn(len(s))] ^= byte(1 + r.Intn(255))
		list = append(list, s)
	}
	p := slog.Place{Seg: 3, Group: 1, Next: 8, Seq: 10}
	for _, s := range append(list, good) {
		d := made(t, some)
		d.Write(some.Summary(3, 1), s)
		if s != good {
			scans(t, d, some, p, nil, p, "P11.2: no summary")
		} else {
			scans(t, d, some, p, []slog.Batch{{First: 10, Segs: []int{3}}}, slog.Place{Seg: 3, Group: 2, Next: 8, Seq: 11}, "P11.2: a summary")
		}
	}
}

// P11.2: where a place isn't of the geometry nothing is scanned, also on a dead disk.
func TestScanPlaces(t *testing.T) {
	d := made(t, some)
	for range 2 {
		for _, x := range ends {
			if x < 0 || x >= some.Segs {
				scanFails(t, d, some, slog.Place{Seg: x, Next: 1}, api.ErrInval, "P11.2: Seg")
				scanFails(t, d, some, slog.Place{Seg: 1, Next: x}, api.ErrInval, "P11.2: Next")
			}
			if x < 0 || x > some.Groups {
				scanFails(t, d, some, slog.Place{Seg: 1, Next: 2, Group: x}, api.ErrInval, "P11.2: Group")
			}
			scanFails(t, d, some, slog.Place{Seg: x, Next: x}, api.ErrInval, "P11.2: both")
		}
		d.Arm(0)
		d.Flush()
	}
}

// P11.2: a disk that ends within the log: it is told, though batches stand ahead of that.
func TestScanDisk(t *testing.T) {
	r := rand.New(rand.NewSource(12))
	p := slog.Place{Seg: 10, Group: 0, Next: 11, Seq: 1}
	d, _ := disk.New(some.Summary(11, 1))
	l := appends(t, d, some, p, []int{5}, 3, items(r, 9))
	l = appends(t, d, some, l.End, []int{5}, 3, items(r, 8))
	scanFails(t, d, some, p, api.ErrInval, "P11.2: a disk that is too small")
	scanFails(t, d, some, l.End, api.ErrInval, "P11.2: a disk that is too small")
}

// P11.3: some batches stand, another one is appended, and the disk dies somewhere; whatever is kept: those ahead are there, and that one wholly or not at all.
func TestCrash(t *testing.T) {
	r := rand.New(rand.NewSource(13))
	for _, n := range []int{1, 2, 7, 8, 9, 16, 17, 20, 33} {
		for first := range some.Groups + 1 {
			d, p := made(t, some), slog.Place{Seg: 4, Group: first, Next: 9, Seq: 77}
			free := []int{0, 11, 3, 7, 2}
			list := items(r, 5)
			l := appends(t, d, some, p, free, 1, list)
			ahead := []slog.Batch{found(p, some, l, 1, list)}
			stale(t, r, d, l.End, free[l.Took:])
			dies(t, r, d, p, l.End, free[l.Took:], ahead, items(r, n))
		}
	}
}

// stale appends a batch that gets lost halfway, so that what it wrote stands where the next one goes.
func stale(t *testing.T, r *rand.Rand, d *disk.Disk, at slog.Place, free []int) {
	t.Helper()
	if r.Intn(2) == 0 {
		return
	}
	list := items(r, 20)
	d.Arm(r.Intn(25))
	if _, e := slog.Append(d, some, at, free, 5, list...); e != api.ErrIo {
		t.Fatalf("P11.3: Append on a disk that dies = %v", e)
	}
	if queue := d.Queue(); len(queue) == 1 {
		d.Crash() // of its last summary alone, else it would be there
		return
	}
	keep := make([]bool, 30)
	for i := range keep {
		keep[i] = r.Intn(3) > 0
	}
	d.Crash(keep...)
}

// dies: wherever it does.
func dies(t *testing.T, r *rand.Rand, old *disk.Disk, p, at slog.Place, free []int, ahead []slog.Batch, list []slog.Item) {
	t.Helper()
	l, _ := planned(some, at, free, len(list))
	with := append(slices.Clone(ahead), found(at, some, l, 9, list))
	count := (len(list) + 7) / 8
	seen := [2]int{}
	for deeds := range len(list) + count + 3 {
		d := old.Twin()
		d.Arm(deeds)
		_, e := slog.Append(d, some, at, free, 9, list...)
		queue := len(d.Queue())
		for try := range min(1<<min(queue, 12), 60) {
			keep := make([]bool, queue)
			for i := range keep {
				keep[i] = queue <= 5 && try>>i&1 == 1 || queue > 5 && (try == 0 || try > 1 && r.Intn(2) == 0)
			}
			after := d.Twin()
			after.Crash(keep...)
			got, end, fault := slog.Scan(after, some, p)
			switch {
			case fault == api.OK && end == at && sameBatches(got, ahead) && e != api.OK:
				seen[0]++
			case fault == api.OK && end == l.End && sameBatches(got, with):
				seen[1]++
				whole(t, after, l, list)
			default:
				t.Errorf("P11.3: %d items, behind %d deeds (%v), kept %v: Scan = %d batches, %+v, %v", len(list), deeds, e, keep, len(got), end, fault)
			}
		}
	}
	if seen[0] == 0 || seen[1] < 2 {
		t.Errorf("P11.3: %d items: it was gone %d times, and there %d times", len(list), seen[0], seen[1])
	}
}

// whole: is each block of a batch that is there what was appended?
func whole(t *testing.T, d *disk.Disk, l slog.Layout, list []slog.Item) {
	t.Helper()
	for i, item := range list {
		if s, e := d.Read(l.At[i]); e != api.OK || s != item.Data {
			t.Errorf("P11.3: block %d of %d isn't there: %v", i, len(list), e)
		}
	}
}

// P11.3: a batch that got lost, and one behind the same place that is shorter: of what the first one left nothing comes to light.
func TestLeftOver(t *testing.T) {
	r := rand.New(rand.NewSource(14))
	p := slog.Place{Seg: 4, Group: 0, Next: 9, Seq: 77}
	free := []int{0, 11, 3, 7, 2}
	for long := 1; long <= 40; long += 3 {
		for short := 1; short <= long; short += 4 {
			d := made(t, some)
			d.Arm(long + (long+7)/8) // its last summary is lost
			if _, e := slog.Append(d, some, p, free, 5, items(r, long)...); e != api.ErrIo {
				t.Fatalf("P11.3: Append = %v", e)
			}
			d.Crash()
			list := items(r, short)
			l := appends(t, d, some, p, free, 6, list)
			scans(t, d, some, p, []slog.Batch{found(p, some, l, 6, list)}, l.End, "P11.3: what is left over")
		}
	}
}

// P11.4: blocks whose bytes are summaries, of the very numbers that come next, are blocks.
func TestBlocksAreNoSummaries(t *testing.T) {
	for n := 1; n <= 40; n++ {
		d, p := made(t, some), slog.Place{Seg: 4, Group: 0, Next: 9, Seq: 77}
		free := []int{0, 11, 3, 7, 2}
		list := make([]slog.Item, n)
		for i := range list {
			list[i].Entry = entry(i)
			seq := p.Seq + uint64((n+7)/8)*uint64(i%2)
			list[i].Data, _ = codec.WriteSummary(codec.Summary{Seq: seq + uint64(i/2), First: seq, Commit: true, Next: turn(some, p, free, i/8).next, Entries: []codec.Entry{entry(1000 + i)}})
		}
		l := appends(t, d, some, p, free, 6, list)
		scans(t, d, some, p, []slog.Batch{found(p, some, l, 6, list)}, l.End, "P11.4")
		scans(t, d, some, l.End, nil, l.End, "P11.4")
		whole(t, d, l, list)
	}
}
