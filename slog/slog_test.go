package slog_test

import (
	"math"
	"math/rand"
	"reflect"
	"slices"
	"testing"

	"drumlin/api"
	"drumlin/codec"
	"drumlin/disk"
	"drumlin/geom"
	"drumlin/slog"
)

// ends are numbers at the edges of what there is, and far off.
var ends = []int{math.MinInt, math.MinInt + 1, -1 << 32, -65536, -2, -1, 0, 1, 2, 3, 7, 8, 9, 11, 12, 13, 31, 32, 33, 199, 200, 201, 65535, 65536, 1 << 32, math.MaxInt - 1, math.MaxInt}

var some = geom.Geom{Segs: 12, Groups: 2, Inodes: 9}

// geoms: of few groups and of many, of few segments and of many.
var geoms = []geom.Geom{some, {Segs: 10, Groups: 1, Inodes: 2}, {Segs: 11, Groups: 3, Inodes: 25}, {Segs: 200, Groups: 32, Inodes: 200}}

// group is one as the tests count them: where it stands.
type group struct{ seg, group, next int }

// turn is the i-th group from p on, if free is as long as it must be: it is counted from group 0 of p's segment on.
func turn(g geom.Geom, p slog.Place, free []int, i int) group {
	segs := append([]int{p.Seg, p.Next}, free...)
	n := p.Group + i
	return group{segs[n/g.Groups], n % g.Groups, segs[n/g.Groups+1]}
}

// planned is what Plan should answer, as the document tells it, of arguments that may be.
func planned(g geom.Geom, p slog.Place, free []int, n int) (slog.Layout, api.Errno) {
	count := (n + 7) / 8
	took := (p.Group + count - 1) / g.Groups
	if took > len(free) {
		return slog.Layout{}, api.ErrNospc
	}
	l := slog.Layout{Took: took}
	for i := range n {
		at := turn(g, p, free, i/8)
		l.At = append(l.At, g.Block(at.seg, at.group, i%8))
	}
	last := turn(g, p, free, count-1)
	l.End = slog.Place{Seg: last.seg, Group: last.group + 1, Next: last.next, Seq: p.Seq + uint64(count)}
	return l, api.OK
}

// items are n blocks, each of which is another one.
func items(r *rand.Rand, n int) []slog.Item {
	list := make([]slog.Item, n)
	for i := range list {
		list[i].Entry = codec.Entry{Kind: 1 + r.Intn(6), Num: uint32(r.Intn(65536)), Version: r.Uint32(), Index: r.Intn(65536)}
		r.Read(list[i].Data[:])
	}
	return list
}

// others are n segments but these, in any order.
func others(r *rand.Rand, g geom.Geom, n int, but ...int) []int {
	list := slices.DeleteFunc(r.Perm(g.Segs), func(seg int) bool { return slices.Contains(but, seg) })
	return slices.Clip(list[:min(n, len(list))])
}

// start is a place of g, now and then behind the last group of a segment.
func start(r *rand.Rand, g geom.Geom) slog.Place {
	segs := r.Perm(g.Segs)
	return slog.Place{Seg: segs[0], Next: segs[1], Group: r.Intn(g.Groups + 1), Seq: []uint64{0, 1, 7, 1 << 40, math.MaxUint64 - 1, math.MaxUint64}[r.Intn(6)]}
}

func made(t *testing.T, g geom.Geom) *disk.Disk {
	t.Helper()
	d, e := disk.New(g.Sectors())
	if e != api.OK {
		t.Fatalf("no disk of %d sectors: %v", g.Sectors(), e)
	}
	return d
}

// found is what Scan should tell of a batch that was appended with OK.
func found(p slog.Place, g geom.Geom, l slog.Layout, time uint32, list []slog.Item) slog.Batch {
	b := slog.Batch{First: p.Seq, Time: time}
	for i, item := range list {
		b.List = append(b.List, slog.Found{Entry: item.Entry, At: l.At[i]})
		if seg, _, _, _ := g.Where(l.At[i]); !slices.Contains(b.Segs, seg) {
			b.Segs = append(b.Segs, seg)
		}
	}
	return b
}

func sameBatches(a, b []slog.Batch) bool {
	return slices.EqualFunc(a, b, func(x, y slog.Batch) bool {
		return x.First == y.First && x.Time == y.Time && slices.Equal(x.Segs, y.Segs) && slices.Equal(x.List, y.List)
	})
}

func scans(t *testing.T, d *disk.Disk, g geom.Geom, p slog.Place, want []slog.Batch, end slog.Place, what string) {
	t.Helper()
	if list, at, e := slog.Scan(d, g, p); e != api.OK || at != end || !sameBatches(list, want) {
		t.Errorf("%s: Scan = %d batches, %+v, %v; want %d, %+v\n%+v\n%+v", what, len(list), at, e, len(want), end, list, want)
	}
}

func scanFails(t *testing.T, d *disk.Disk, g geom.Geom, p slog.Place, want api.Errno, what string) {
	t.Helper()
	if list, at, e := slog.Scan(d, g, p); list != nil || at != (slog.Place{}) || e != want {
		t.Errorf("%s: Scan = %v, %+v, %v; want %v", what, list, at, e, want)
	}
}

func plans(t *testing.T, g geom.Geom, p slog.Place, free []int, n int) {
	t.Helper()
	l, e := slog.Plan(g, p, free, n)
	if want, fault := planned(g, p, free, n); !reflect.DeepEqual(l, want) || e != fault {
		t.Errorf("P11.1: Plan(%+v, %+v, %v, %d) = %+v, %v; want %+v, %v", g, p, free, n, l, e, want, fault)
	}
}

func planFails(t *testing.T, g geom.Geom, p slog.Place, free []int, n int, want api.Errno) {
	t.Helper()
	if l, e := slog.Plan(g, p, free, n); !reflect.DeepEqual(l, slog.Layout{}) || e != want {
		t.Errorf("P11.1: Plan(%+v, %+v, %v, %d) = %+v, %v; want %v", g, p, free, n, l, e, want)
	}
}

func appends(t *testing.T, d *disk.Disk, g geom.Geom, p slog.Place, free []int, time uint32, list []slog.Item) slog.Layout {
	t.Helper()
	l, e := slog.Append(d, g, p, free, time, list...)
	if want, _ := planned(g, p, free, len(list)); e != api.OK || !reflect.DeepEqual(l, want) {
		t.Fatalf("P11.2: Append(%+v, %v, %d items) = %+v, %v; want %+v", p, free, len(list), l, e, want)
	}
	return l
}

// appendFails: and of the disk nothing is another.
func appendFails(t *testing.T, d *disk.Disk, g geom.Geom, p slog.Place, free []int, list []slog.Item, want api.Errno) {
	t.Helper()
	before := d.Twin()
	if l, e := slog.Append(d, g, p, free, 1, list...); !reflect.DeepEqual(l, slog.Layout{}) || e != want {
		t.Errorf("P11.2: Append(%+v, %v, %d items) = %+v, %v; want %v", p, free, len(list), l, e, want)
	}
	if !d.Same(before) || d.Deeds() != before.Deeds() {
		t.Errorf("P11.2: Append(%+v, %v, %d items): the disk is another one, beside %v", p, free, len(list), want)
	}
}

// P11.1: the document's example.
func TestExample(t *testing.T) {
	g := geom.Geom{Segs: 20, Groups: 2, Inodes: 10}
	l, e := slog.Plan(g, slog.Place{Seg: 0, Group: 1, Next: 3, Seq: 5}, []int{7, 4}, 9)
	want := []int{19, 20, 21, 22, 23, 24, 25, 26, g.Block(3, 0, 0)}
	if e != api.OK || !slices.Equal(l.At, want) || l.End != (slog.Place{Seg: 3, Group: 1, Next: 7, Seq: 7}) || l.Took != 1 {
		t.Errorf("P11.1: Plan = %+v, %v", l, e)
	}
}

// P11.1: each place of a segment, and each count of blocks over some segments, with as many free ones as are needed, with one less and with more.
func TestPlan(t *testing.T) {
	for _, g := range geoms[:3] {
		for first := range g.Groups + 1 {
			for n := 1; n <= 4*g.Cap()+1; n++ {
				p := slog.Place{Seg: 5, Group: first, Next: 2, Seq: uint64(n)}
				for size := range 7 {
					plans(t, g, p, []int{9, 0, 1, 3, 4, 6}[:size], n)
				}
				plans(t, g, p, nil, n)
			}
		}
	}
}

// P11.1: a batch may end just where a segment ends: the log doesn't go over till it must.
func TestPlanFull(t *testing.T) {
	p := slog.Place{Seg: 11, Group: 1, Next: 0, Seq: 9}
	l, e := slog.Plan(some, p, nil, 8)
	if e != api.OK || l.Took != 0 || l.End != (slog.Place{Seg: 11, Group: 2, Next: 0, Seq: 10}) {
		t.Errorf("P11.1: Plan = %+v, %v", l, e)
	}
	planFails(t, some, l.End, nil, 1, api.ErrNospc)
	l, e = slog.Plan(some, l.End, []int{4}, 1)
	if e != api.OK || l.Took != 1 || l.End != (slog.Place{Seg: 0, Group: 1, Next: 4, Seq: 11}) || l.At[0] != some.Block(0, 0, 0) {
		t.Errorf("P11.1: Plan = %+v, %v", l, e)
	}
}

// P11.1: the greatest geometry is filled, but for the segment that comes next.
func TestPlanAll(t *testing.T) {
	g := geoms[3]
	p := slog.Place{Seg: 0, Group: 0, Next: 1, Seq: 1}
	var free []int
	for seg := 2; seg < g.Segs; seg++ {
		free = append(free, seg)
	}
	plans(t, g, p, free, 199*g.Cap())
	planFails(t, g, p, free, 199*g.Cap()+1, api.ErrNospc)
	planFails(t, g, p, free, 65535, api.ErrNospc)
	planFails(t, g, p, free, 65536, api.ErrInval)
}

// P11.1: as many blocks as may be go where segments come again; the document doesn't say that those of free are others.
func TestPlanMost(t *testing.T) {
	g := geoms[3]
	free := make([]int, 255)
	for i := range free {
		free[i] = 2 + i%100
	}
	plans(t, g, slog.Place{Next: 1}, free, 65535)
	plans(t, g, slog.Place{Next: 1}, free, 65280)
	planFails(t, g, slog.Place{Next: 1}, free, 65536, api.ErrInval)
	planFails(t, g, slog.Place{Next: 1}, free[:254], 65535, api.ErrNospc)
}

// P11.1: how many blocks there may not be.
func TestPlanCounts(t *testing.T) {
	for _, n := range ends {
		if n < 1 || n > 65535 {
			planFails(t, some, slog.Place{Next: 1}, []int{3, 4}, n, api.ErrInval)
			planFails(t, some, slog.Place{Next: 1}, nil, n, api.ErrInval)
		}
	}
}

// P11.1: which places aren't of a geometry; free is too short besides, as the least error is told.
func TestPlanPlaces(t *testing.T) {
	for _, g := range geoms {
		for _, x := range append(slices.Clone(ends), g.Segs-1, g.Segs, g.Groups, g.Groups+1) {
			isSeg, isGroup := x >= 0 && x < g.Segs, x >= 0 && x <= g.Groups
			for _, try := range []struct {
				p  slog.Place
				ok bool
			}{
				{slog.Place{Seg: x, Next: 1}, isSeg && x != 1},
				{slog.Place{Seg: 1, Next: x}, isSeg && x != 1},
				{slog.Place{Seg: x, Next: x}, false},
				{slog.Place{Seg: 1, Next: 2, Group: x}, isGroup},
				{slog.Place{Seg: x, Next: x + 1, Group: x}, isSeg && isGroup && x+1 < g.Segs},
			} {
				for _, free := range [][]int{nil, {3}, {3, 4}} {
					if try.ok {
						plans(t, g, try.p, free, 1)
						plans(t, g, try.p, free, 9)
					} else {
						planFails(t, g, try.p, free, 1, api.ErrInval)
						planFails(t, g, try.p, free, 65535, api.ErrInval)
					}
				}
			}
		}
	}
}

// P11.1: what is no segment isn't in free, wherever it stands there, needed or not.
func TestPlanFree(t *testing.T) {
	for _, x := range ends {
		if x >= 0 && x < some.Segs {
			continue
		}
		for i := range 4 {
			free := []int{3, 4, 5, 6}
			free[i] = x
			for _, n := range []int{1, 17, 40, 65535} {
				planFails(t, some, slog.Place{Next: 1}, free, n, api.ErrInval)
			}
		}
	}
}

// P11.2: batches, one behind the other, are found, all of them or those from a later place on, also by another disk behind a crash; each block stands where it should.
func TestAppendScan(t *testing.T) {
	r := rand.New(rand.NewSource(1))
	for range 300 {
		g := geoms[r.Intn(3)]
		d, p := made(t, g), start(r, g)
		free := others(r, g, g.Segs, p.Seg, p.Next)
		places, want := []slog.Place{p}, []slog.Batch(nil)
		for {
			list := items(r, 1+r.Intn([]int{1, 8, 9, 20, 40}[r.Intn(5)]))
			time := r.Uint32()
			if _, e := planned(g, p, free, len(list)); e != api.OK {
				appendFails(t, d, g, p, free, list, e)
				break
			}
			l := appends(t, d, g, p, free, time, list)
			for i, at := range l.At {
				if s, e := d.Read(at); e != api.OK || s != list[i].Data {
					t.Errorf("P11.2: block %d isn't what was appended: %v", i, e)
				}
			}
			want = append(want, found(p, g, l, time, list))
			p, free = l.End, free[l.Took:]
			places = append(places, p)
		}
		d.Crash()
		for i, from := range places {
			scans(t, d, g, from, want[i:], p, "P11.2")
		}
	}
}

// P11.2: what a batch's summaries tell, and nothing else is written than these and the blocks, each once, group by group, the last summary behind a flush.
func TestSummaries(t *testing.T) {
	r := rand.New(rand.NewSource(2))
	for _, n := range []int{1, 7, 8, 9, 16, 17, 24, 25, 31, 32, 33, 50} {
		for first := range 3 {
			p := slog.Place{Seg: 4, Group: first, Next: 9, Seq: 77}
			free := []int{0, 11, 3, 7}
			list := items(r, n)
			d := made(t, some)
			l := appends(t, d, some, p, free, 55, list)
			count := (n + 7) / 8
			if d.Deeds() != n+count+2 || len(d.Queue()) != 0 {
				t.Errorf("P11.2: %d deeds of %d items, queue %v", d.Deeds(), n, d.Queue())
			}
			var order []int
			for i := range count {
				at := turn(some, p, free, i)
				s, _ := d.Read(some.Summary(at.seg, at.group))
				x, e := codec.ReadSummary(s)
				want := codec.Summary{Seq: 77 + uint64(i), First: 77, Commit: i == count-1, Next: at.next, Time: 55}
				for _, item := range list[8*i : min(n, 8*i+8)] {
					want.Entries = append(want.Entries, item.Entry)
				}
				if e != api.OK || !reflect.DeepEqual(x, want) {
					t.Errorf("P11.2: summary %d of %d items: %+v, %v; want %+v", i, n, x, e, want)
				}
				order = append(append(order, l.At[8*i:min(n, 8*i+8)]...), some.Summary(at.seg, at.group))
			}
			ordered(t, p, free, list, order)
		}
	}
}

// ordered is whether the writes of an Append go in this order: wherever it dies, the queue tells which were made.
func ordered(t *testing.T, p slog.Place, free []int, list []slog.Item, order []int) {
	t.Helper()
	last := len(order) - 1
	for deeds := range len(order) + 3 {
		d := made(t, some)
		d.Arm(deeds)
		l, e := slog.Append(d, some, p, free, 55, list...)
		var want []int
		switch { // the deeds are: all writes but the last one, a flush, the last write, a flush
		case deeds < last:
			want = order[:deeds+1]
		case deeds == last:
			want = order[:last]
		case deeds <= last+2:
			want = order[last:]
		}
		if !slices.Equal(d.Queue(), want) {
			t.Errorf("P11.2: behind %d deeds the queue is %v; want %v", deeds, d.Queue(), want)
		}
		if fails := deeds < len(order)+2; d.Dead() != fails || (e == api.ErrIo) != fails || fails != reflect.DeepEqual(l, slog.Layout{}) {
			t.Errorf("P11.2: Append that dies behind %d deeds = %+v, %v", deeds, l, e)
		}
	}
}

// P11.2: Append takes what Plan takes.
func TestAppendPlanErrors(t *testing.T) {
	r := rand.New(rand.NewSource(3))
	d := made(t, some)
	p := slog.Place{Seg: 0, Group: 1, Next: 3, Seq: 1}
	appendFails(t, d, some, p, []int{5}, nil, api.ErrInval)
	appendFails(t, d, some, p, nil, items(r, 9), api.ErrNospc)
	appendFails(t, d, some, p, []int{5}, items(r, 25), api.ErrNospc)
	appendFails(t, d, some, p, []int{5, 12}, items(r, 1), api.ErrInval)
	appendFails(t, d, some, p, []int{-1}, items(r, 1), api.ErrInval)
	appendFails(t, d, some, slog.Place{Seg: 3, Next: 3}, []int{5}, items(r, 1), api.ErrInval)
	appendFails(t, d, some, slog.Place{Seg: 3, Next: 4, Group: 3}, []int{5}, items(r, 1), api.ErrInval)
	appendFails(t, d, some, slog.Place{}, []int{5}, items(r, 1), api.ErrInval)
	appendFails(t, d, some, p, []int{5}, items(r, 65536), api.ErrInval)
	scans(t, d, some, p, nil, p, "P11.2: nothing was appended")
}

// P11.2: an entry that no summary takes is refused ahead of any write, wherever it stands; behind Plan's errors, ahead of the disk's.
func TestAppendEntries(t *testing.T) {
	r := rand.New(rand.NewSource(4))
	p := slog.Place{Seg: 0, Group: 1, Next: 3, Seq: 1}
	for _, bad := range []codec.Entry{{}, {Kind: 7}, {Kind: -1}, {Kind: 1, Num: 65536}, {Kind: 1, Num: math.MaxUint32}, {Kind: 1, Index: -1}, {Kind: 6, Index: 65536}} {
		for i := range 20 {
			list := items(r, 20)
			list[i].Entry = bad
			d := made(t, some)
			appendFails(t, d, some, p, []int{5}, list, api.ErrInval)
			appendFails(t, d, some, p, nil, list, api.ErrNospc)
			d.Arm(0)
			d.Flush()
			appendFails(t, d, some, p, []int{5}, list, api.ErrInval)
			appendFails(t, d, some, p, nil, list, api.ErrNospc)
		}
	}
}

// P11.2: of a dead disk ErrIo; a disk that hasn't all the sectors is left as it was.
func TestAppendDisk(t *testing.T) {
	r := rand.New(rand.NewSource(5))
	p := slog.Place{Seg: 10, Group: 1, Next: 11, Seq: 1}
	d := made(t, some)
	d.Arm(0)
	d.Flush()
	appendFails(t, d, some, p, []int{5}, items(r, 20), api.ErrIo)
	scanFails(t, d, some, p, api.ErrIo, "P11.2: a dead disk")
	for _, size := range []int{1, some.Summary(10, 1), some.Block(10, 1, 4), some.Summary(11, 0), some.Block(11, 0, 7), some.Summary(11, 1), some.Block(11, 1, 3)} {
		d, _ := disk.New(size)
		list := items(r, 20)
		appendFails(t, d, some, p, []int{5}, list, api.ErrInval)
	}
	d, _ = disk.New(some.Block(11, 1, 3) + 1)
	l := appends(t, d, some, p, []int{5}, 3, items(r, 20))
	if l.At[19] != d.Size()-1 {
		t.Errorf("P11.2: the last block is %d of %d", l.At[19], d.Size())
	}
	d, _ = disk.New(some.Summary(11, 1))
	begin := slog.Place{Seg: 0, Group: 2, Next: 11}
	scans(t, d, some, begin, nil, begin, "P11.2: a disk with the summary")
	scanFails(t, d, some, slog.Place{Seg: 11, Group: 1, Next: 0}, api.ErrInval, "P11.2: a disk without the summary")
}

// P1: whatever the arguments are.
func TestNoPanic(t *testing.T) {
	r := rand.New(rand.NewSource(6))
	pick := func() int { return ends[r.Intn(len(ends))] }
	d := made(t, some)
	for range 20000 {
		g := geom.Geom{Segs: pick(), Groups: pick(), Inodes: pick()}
		if r.Intn(2) == 0 {
			g = some
		}
		p := slog.Place{Seg: pick(), Group: pick(), Next: pick(), Seq: r.Uint64()}
		if r.Intn(2) == 0 {
			p.Seg, p.Next = 1, 2
		}
		free := make([]int, r.Intn(4))
		for i := range free {
			free[i] = 3
			if r.Intn(2) == 0 {
				free[i] = pick()
			}
		}
		slog.Plan(g, p, free, pick())
		slog.Append(d, g, p, free, 1, make([]slog.Item, r.Intn(30))...)
		slog.Append(d, g, p, free, 1, items(r, r.Intn(30))...)
		slog.Scan(d, g, p)
	}
}

// DOC.md, rule 5: what is handed in stays as it is, its spare room too; answers share no memory.
func TestKept(t *testing.T) {
	r := rand.New(rand.NewSource(7))
	free := []int{5, 6, 7, 8, 9}
	list := items(r, 40)
	given, all := slices.Clone(list), slices.Clone(free)
	d := made(t, some)
	p := slog.Place{Seg: 0, Group: 1, Next: 3, Seq: 1}
	l, e := slog.Append(d, some, p, free[:2], 7, list[:30]...)
	again, _ := slog.Plan(some, p, free[:2], 30)
	if e != api.OK || !slices.Equal(given, list) || !slices.Equal(all, free) {
		t.Errorf("rule 5: Append changed what it was handed: %v", e)
	}
	for i := range list {
		list[i] = slog.Item{}
	}
	for i := range l.At {
		l.At[i] = -5
	}
	if want, _ := planned(some, p, all[:2], 30); !reflect.DeepEqual(again, want) {
		t.Errorf("rule 5: the layouts share memory: %+v", again)
	}
	want := []slog.Batch{found(p, some, again, 7, given[:30])}
	one, _, _ := slog.Scan(d, some, p)
	scans(t, d, some, p, want, again.End, "rule 5")
	for i := range one[0].List {
		one[0].List[i] = slog.Found{}
	}
	one[0].Segs[0] = 77
	scans(t, d, some, p, want, again.End, "rule 5")
}

// DOC.md, rule 5: nor do the batches of one answer.
func TestApart(t *testing.T) {
	r := rand.New(rand.NewSource(8))
	d := made(t, some)
	p := slog.Place{Seg: 0, Group: 0, Next: 3, Seq: 1}
	for range 4 {
		p = appends(t, d, some, p, []int{5}, 7, items(r, 3)).End
		if p.Next == 5 {
			break
		}
	}
	list, _, _ := slog.Scan(d, some, slog.Place{Seg: 0, Group: 0, Next: 3, Seq: 1})
	if len(list) < 2 {
		t.Fatalf("P11.2: %d batches", len(list))
	}
	kept := slices.Clone(list[1].List)
	first := append(list[0].List, slog.Found{At: 1}, slog.Found{At: 2}, slog.Found{At: 3})
	_ = append(list[0].Segs, 9, 9, 9)
	if !slices.Equal(kept, list[1].List) || list[1].Segs[0] != 0 || len(first) != 6 {
		t.Errorf("rule 5: batches share memory")
	}
}
