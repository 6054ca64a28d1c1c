package disk_test

import (
	"math"
	"math/rand"
	"slices"
	"testing"

	"drumlin/api"
	"drumlin/disk"
)

// filled is a sector of which each byte hangs on n, so that one that is mixed of two is none of these.
func filled(n int) api.Sector {
	var s api.Sector
	for i := range s {
		s[i] = byte(n*7 + i*3)
	}
	return s
}

func made(t *testing.T, size int) *disk.Disk {
	t.Helper()
	d, e := disk.New(size)
	if e != api.OK || d == nil {
		t.Fatalf("P3.1: New(%d) = %v, %v", size, d, e)
	}
	return d
}

func write(t *testing.T, d *disk.Disk, at, n int) {
	t.Helper()
	if e := d.Write(at, filled(n)); e != api.OK {
		t.Fatalf("P3.1: Write(%d) = %v", at, e)
	}
}

func reads(t *testing.T, d *disk.Disk, at int, want api.Sector, what string) {
	t.Helper()
	if s, e := d.Read(at); e != api.OK || s != want {
		t.Errorf("%s: Read(%d) = % x.., %v; want % x..", what, at, s[:4], e, want[:4])
	}
}

func refuses(t *testing.T, d *disk.Disk, at int, want api.Errno, what string) {
	t.Helper()
	if s, e := d.Read(at); e != want || s != (api.Sector{}) {
		t.Errorf("%s: Read(%d) = % x.., %v; want %v", what, at, s[:4], e, want)
	}
	if e := d.Write(at, filled(99)); e != want {
		t.Errorf("%s: Write(%d) = %v; want %v", what, at, e, want)
	}
}

func queue(t *testing.T, d *disk.Disk, want ...int) {
	t.Helper()
	if got := d.Queue(); !slices.Equal(got, want) {
		t.Errorf("P3.1: Queue = %v; want %v", got, want)
	}
}

// same holds two disks against each other, from both sides.
func same(t *testing.T, a, b *disk.Disk, want bool, what string) {
	t.Helper()
	if got, back := a.Same(b), b.Same(a); got != want || back != want {
		t.Errorf("P3.3: %s: Same = %v, and from the other side %v", what, got, back)
	}
}

// P3.1: a new disk has so many sectors, all noughts, is alive, and its cache is empty.
func TestNew(t *testing.T) {
	for _, size := range []int{1, 2, 369, api.MaxSectors - 1, api.MaxSectors} {
		d := made(t, size)
		if d.Size() != size || d.Dead() || d.Deeds() != 0 || len(d.Queue()) != 0 {
			t.Errorf("P3.1: New(%d): %d sectors, dead %v, %d deeds, queue %v", size, d.Size(), d.Dead(), d.Deeds(), d.Queue())
		}
		for at := range size {
			reads(t, d, at, api.Sector{}, "P3.1: a new disk")
		}
		refuses(t, d, size, api.ErrInval, "P3.1: a new disk")
		d.Crash()
		same(t, d, made(t, size), true, "two new ones")
	}
	for _, size := range []int{math.MinInt, -65536, -1, 0, api.MaxSectors + 1, math.MaxInt32, math.MaxInt} {
		if d, e := disk.New(size); d != nil || e != api.ErrInval {
			t.Errorf("P3.1: New(%d) = %v, %v", size, d, e)
		}
	}
}

// P3.1: the document's example, and that the order of the writes in the cache counts, not that of the sectors.
func TestExample(t *testing.T) {
	d := made(t, 2)
	write(t, d, 1, 1)
	write(t, d, 1, 2)
	reads(t, d, 1, filled(2), "P3.1")
	d.Crash(true)
	reads(t, d, 1, filled(1), "P3.1")
	reads(t, d, 0, api.Sector{}, "P3.1")
}

// P3.1: there is no sector below 0, nor of the number of all; ErrInval goes ahead of ErrIo; nothing that is refused changes anything.
func TestNoSuchSector(t *testing.T) {
	d := made(t, 3)
	write(t, d, 2, 1)
	before := d.Twin()
	for _, at := range []int{math.MinInt, -3, -1, 3, 4, 65536, math.MaxInt} {
		refuses(t, d, at, api.ErrInval, "P3.1: alive")
	}
	same(t, d, before, true, "what was refused")
	if d.Deeds() != 1 {
		t.Errorf("P3.1: Deeds = %d", d.Deeds())
	}
	d.Arm(0)
	refuses(t, d, 3, api.ErrInval, "P3.1: armed")
	if d.Dead() {
		t.Errorf("P3.1: what is refused is no deed, and kills nothing")
	}
	d.Flush()
	for _, at := range []int{math.MinInt, -1, 3, math.MaxInt} {
		refuses(t, d, at, api.ErrInval, "P3.1: dead")
	}
	for at := range 3 {
		refuses(t, d, at, api.ErrIo, "P3.1: dead")
	}
	queue(t, d, 2)
}

// P3.1: what was written last is read, ahead of a flush and behind it; a flush empties the cache.
func TestFlush(t *testing.T) {
	d := made(t, 4)
	for i, at := range []int{2, 0, 2, 3, 0, 2} {
		write(t, d, at, i+1)
	}
	queue(t, d, 2, 0, 2, 3, 0, 2)
	want := []api.Sector{filled(5), {}, filled(6), filled(4)}
	for at, s := range want {
		reads(t, d, at, s, "P3.1: of the cache")
	}
	if e := d.Flush(); e != api.OK {
		t.Errorf("P3.1: Flush = %v", e)
	}
	queue(t, d)
	for at, s := range want {
		reads(t, d, at, s, "P3.1: behind the flush")
	}
	write(t, d, 3, 7)
	queue(t, d, 3)
	reads(t, d, 3, filled(7), "P3.1: written again")
	if e := d.Flush(); e != api.OK || d.Flush() != api.OK || d.Deeds() != 10 {
		t.Errorf("P3.1: Flush = %v, deeds %d", e, d.Deeds())
	}
}

// P3.1: of the writes in the cache just those with a true are kept, whatever the length of keep; alive or dead, it is as new then.
func TestCrash(t *testing.T) {
	places := []int{0, 1, 0, 2}
	for _, dies := range []bool{false, true} {
		for mask := range 1 << 6 {
			for size := range 7 {
				d := made(t, 3)
				write(t, d, 1, 9)
				d.Flush()
				want := []api.Sector{{}, filled(9), {}}
				keep := make([]bool, size)
				for i := range keep {
					keep[i] = mask>>i&1 != 0
				}
				given := slices.Clone(keep)
				for i, at := range places {
					write(t, d, at, i+1)
					if i < size && keep[i] {
						want[at] = filled(i + 1)
					}
				}
				d.Arm(0)
				if dies && (d.Flush() != api.ErrIo || !d.Dead()) {
					t.Fatalf("P3.1: it should be dead")
				}
				d.Crash(keep...)
				if !slices.Equal(keep, given) {
					t.Errorf("P3.1: Crash changed what it was handed: %v", keep)
				}
				queue(t, d)
				for at, s := range want {
					reads(t, d, at, s, "P3.1: behind the crash")
				}
				if d.Dead() || d.Deeds() != 6 || d.Flush() != api.OK || d.Deeds() != 7 {
					t.Errorf("P3.1: behind the crash: dead %v, %d deeds", d.Dead(), d.Deeds())
				}
			}
		}
	}
}

// P3.1: n deeds are done, the next one kills it; a write that kills it stands in the cache still, a flush does nothing.
func TestArm(t *testing.T) {
	for n := range 8 {
		for _, flushes := range []bool{false, true} {
			d := made(t, 2)
			d.Arm(n)
			for i := range n {
				d.Read(0)
				refuses(t, d, 2, api.ErrInval, "P3.1: armed")
				if i%3 == 2 {
					if e := d.Flush(); e != api.OK {
						t.Errorf("P3.1: armed with %d: Flush = %v", n, e)
					}
					continue
				}
				write(t, d, 0, i+1)
			}
			before := d.Queue()
			if d.Dead() || d.Deeds() != n {
				t.Fatalf("P3.1: armed with %d: dead %v, %d deeds", n, d.Dead(), d.Deeds())
			}
			if flushes {
				if e := d.Flush(); e != api.ErrIo {
					t.Errorf("P3.1: the flush that kills: %v", e)
				}
			} else {
				before = append(before, 1)
				if e := d.Write(1, filled(50)); e != api.ErrIo {
					t.Errorf("P3.1: the write that kills: %v", e)
				}
			}
			queue(t, d, before...)
			dead(t, d, n)
			d.Crash(slices.Repeat([]bool{true}, len(before))...)
			if !flushes {
				reads(t, d, 1, filled(50), "P3.1: the write that killed it")
			}
		}
	}
}

// dead tells of a dead disk what holds for all of them, and that nothing changes it.
func dead(t *testing.T, d *disk.Disk, deeds int) {
	t.Helper()
	before := d.Twin()
	for at := range d.Size() {
		refuses(t, d, at, api.ErrIo, "P3.1: dead")
	}
	for _, n := range []int{-1, 0, 3} {
		d.Arm(n)
		if e := d.Flush(); e != api.ErrIo || !d.Dead() || d.Deeds() != deeds {
			t.Errorf("P3.1: dead: Flush = %v, dead %v, %d deeds; want %d", e, d.Dead(), d.Deeds(), deeds)
		}
	}
	same(t, d, before, true, "a dead one and its twin")
	other := d.Twin()
	other.Crash()
	if other.Flush() != api.OK || other.Dead() {
		t.Errorf("P3.1: what was armed when it was dead was armed")
	}
}

// P3.1: what it was armed with last counts; below 0 it is armed no more; so it is behind a crash.
func TestArmAgain(t *testing.T) {
	d := made(t, 1)
	for _, n := range []int{-1, -2, math.MinInt} {
		d.Arm(0)
		d.Arm(n)
		same(t, d, made(t, 1), true, "armed no more")
		for range 3 {
			if e := d.Flush(); e != api.OK {
				t.Fatalf("P3.1: Arm(%d): Flush = %v", n, e)
			}
		}
	}
	d.Arm(5)
	d.Flush()
	d.Arm(1)
	if d.Flush() != api.OK || d.Flush() != api.ErrIo || !d.Dead() {
		t.Errorf("P3.1: armed again with less")
	}
	d.Crash()
	d.Arm(0)
	d.Arm(2)
	if d.Flush() != api.OK || d.Flush() != api.OK || d.Dead() || d.Flush() != api.ErrIo {
		t.Errorf("P3.1: armed again with more")
	}
	d.Crash()
	d.Arm(1)
	d.Crash()
	same(t, d, made(t, 1), true, "armed, and crashed")
	d.Arm(math.MaxInt)
	for range 3 {
		if d.Flush() != api.OK {
			t.Errorf("P3.1: armed with the greatest number")
		}
	}
}

// subset is that of n writes which the bits of mask name.
func subset(n, mask int) []bool {
	keep := make([]bool, n)
	for i := range keep {
		keep[i] = mask>>i&1 != 0
	}
	return keep
}

// P3.2, P3.4: wherever it dies, and whatever is kept: what was flushed stays, or was written over by something whole.
func TestFlushedStays(t *testing.T) {
	const size, all = 3, 11
	places := [all]int{0, 1, 0, -1, 1, 2, 0, 1, -1, 2, 2} // -1: a flush
	for n := range all {
		d := made(t, size)
		d.Arm(n)
		var safe [size]api.Sector
		cached := map[int][]api.Sector{}
		for i, at := range places[:n+1] {
			if at >= 0 {
				d.Write(at, filled(i+1))
				cached[at] = append(cached[at], filled(i+1))
			} else if d.Flush() == api.OK {
				for k, list := range cached {
					safe[k] = list[len(list)-1]
				}
				clear(cached)
			}
		}
		waits := len(d.Queue())
		for mask := range 1 << waits {
			twin := d.Twin()
			twin.Crash(subset(waits, mask)...)
			for at := range size {
				s, e := twin.Read(at)
				if e != api.OK || s != safe[at] && !slices.Contains(cached[at], s) {
					t.Errorf("P3.2: dead behind %d, kept %b: Read(%d) = % x.., %v", n, mask, at, s[:4], e)
				}
				if mask == 0 && s != safe[at] {
					t.Errorf("P3.2: dead behind %d: sector %d isn't as it was flushed", n, at)
				}
			}
		}
	}
}

// P3.4: what is read is the whole sector that was written, each byte of it, and nothing of its neighbours.
func TestWhole(t *testing.T) {
	d := made(t, 3)
	for i := range api.SectorSize {
		s := filled(1)
		s[i]++
		d.Write(1, s)
		reads(t, d, 1, s, "P3.4: of the cache")
		d.Flush()
		reads(t, d, 1, s, "P3.4: of the disk")
		reads(t, d, 0, api.Sector{}, "P3.4: the one ahead")
		reads(t, d, 2, api.Sector{}, "P3.4: the one behind")
	}
}

// P3.3: a twin is like its disk in all, and goes its own way, as does the disk.
func TestTwin(t *testing.T) {
	for _, armed := range []int{-1, 0, 4} {
		for _, dies := range []bool{false, true} {
			d := made(t, 3)
			write(t, d, 0, 1)
			d.Flush()
			write(t, d, 1, 2)
			write(t, d, 2, 3)
			if dies {
				d.Arm(0)
				d.Flush()
			}
			d.Arm(armed)
			twin, third := d.Twin(), d.Twin()
			same(t, d, twin, true, "a twin")
			if twin.Deeds() != d.Deeds() || twin.Size() != 3 || twin.Dead() != dies {
				t.Errorf("P3.3: a twin: %d deeds, %d sectors, dead %v", twin.Deeds(), twin.Size(), twin.Dead())
			}
			queue(t, twin, 1, 2)
			twin.Crash(true, true)
			write(t, twin, 0, 9)
			write(t, twin, 1, 9)
			twin.Flush()
			same(t, d, third, true, "a disk whose twin went on")
			queue(t, d, 1, 2)
			d.Crash(true)
			write(t, d, 2, 8)
			same(t, d, third, false, "a disk that went on")
			queue(t, third, 1, 2)
			third.Crash(false, true)
			reads(t, third, 0, filled(1), "P3.3: the third one")
			reads(t, third, 1, api.Sector{}, "P3.3: the third one")
			reads(t, third, 2, filled(3), "P3.3: the third one")
			reads(t, twin, 2, filled(3), "P3.3: the twin")
			reads(t, twin, 1, filled(9), "P3.3: the twin")
		}
	}
}

// P3.3: a twin's cache and its disk's don't grow into one another.
func TestTwinCache(t *testing.T) {
	for size := range 20 {
		d := made(t, 2)
		for i := range size {
			write(t, d, 0, i)
		}
		twin := d.Twin()
		write(t, d, 1, 100)
		write(t, twin, 1, 101)
		write(t, d, 1, 102)
		reads(t, twin, 1, filled(101), "P3.3: the twin's write")
		twin.Flush()
		reads(t, twin, 1, filled(101), "P3.3: the twin's flush")
		reads(t, d, 1, filled(102), "P3.3: the disk's write")
	}
}

// P3.3: one thing that is another one, and they aren't alike; but for how many deeds were done.
func TestSame(t *testing.T) {
	base := func() *disk.Disk {
		d := made(t, 3)
		write(t, d, 0, 1)
		d.Flush()
		write(t, d, 1, 2)
		write(t, d, 2, 3)
		return d
	}
	same(t, base(), base(), true, "made alike")
	d := base()
	same(t, d, d, true, "one and itself")
	if d.Same(nil) {
		t.Errorf("P3.3: Same(nil) = true")
	}
	others := map[string]func() *disk.Disk{
		"another sector, cached alike": func() *disk.Disk { d := made(t, 3); write(t, d, 1, 2); write(t, d, 2, 3); return d },
		"nothing cached":               func() *disk.Disk { d := base(); d.Crash(); return d },
		"one fewer cached":             func() *disk.Disk { d := base(); d.Crash(); write(t, d, 1, 2); return d },
		"one more cached":              func() *disk.Disk { d := base(); write(t, d, 2, 3); return d },
		"flushed, read alike":          func() *disk.Disk { d := base(); d.Flush(); return d },
		"cached in another order":      func() *disk.Disk { d := base(); d.Crash(); write(t, d, 2, 3); write(t, d, 1, 2); return d },
		"cached for another sector":    func() *disk.Disk { d := base(); d.Crash(); write(t, d, 1, 2); write(t, d, 1, 3); return d },
		"something else cached":        func() *disk.Disk { d := base(); d.Crash(); write(t, d, 1, 2); write(t, d, 2, 4); return d },
		"armed":                        func() *disk.Disk { d := base(); d.Arm(0); return d },
		"armed with more":              func() *disk.Disk { d := base(); d.Arm(7); return d },
		"armed with most":              func() *disk.Disk { d := base(); d.Arm(math.MaxInt); return d },
		"dead":                         func() *disk.Disk { d := base(); d.Arm(0); d.Flush(); return d },
		"more sectors":                 func() *disk.Disk { return more(t, 4) },
		"fewer sectors":                func() *disk.Disk { return more(t, 2) },
	}
	for name, other := range others {
		same(t, base(), other(), false, name)
		same(t, other(), other(), true, name+", twice")
	}
	for name, other := range others {
		for name2, other2 := range others {
			same(t, other(), other2(), name == name2, name+" and "+name2)
		}
	}
	d = base()
	d.Crash()
	write(t, d, 1, 2)
	write(t, d, 2, 3)
	if same(t, d, base(), true, "other deeds"); d.Deeds() != 6 || base().Deeds() != 4 {
		t.Errorf("P3.1: Deeds = %d, %d", d.Deeds(), base().Deeds())
	}
}

// more is like the disk that TestSame begins with, as far as that goes, of another size.
func more(t *testing.T, size int) *disk.Disk {
	d := made(t, size)
	write(t, d, 0, 1)
	d.Flush()
	write(t, d, 1, 2)
	write(t, d, size-1, 3)
	return d
}

// P3.3: disks that are armed are alike if as many deeds are left, whatever they were armed with.
func TestSameLeft(t *testing.T) {
	a, b := made(t, 1), made(t, 1)
	a.Arm(3)
	a.Flush()
	b.Arm(2)
	same(t, a, b, true, "two deeds left")
	b.Flush()
	same(t, a, b, false, "two, and one")
	a.Flush()
	a.Flush()
	b.Flush()
	same(t, a, b, true, "none left")
	a.Flush()
	same(t, a, b, false, "dead, and none left")
	b.Flush()
	same(t, a, b, true, "dead")
}

// P3.3: each single byte of each sector counts, on the disk and in the cache.
func TestSameBytes(t *testing.T) {
	for at := range 2 {
		for i := range api.SectorSize {
			d := made(t, 2)
			other := filled(5)
			write(t, d, at, 5)
			other[i] ^= 128
			twin := d.Twin()
			twin.Crash()
			twin.Write(at, other)
			same(t, d, twin, false, "a byte in the cache")
			d.Flush()
			twin.Flush()
			same(t, d, twin, false, "a byte on the disk")
		}
	}
}

// P3.1: Queue answers new memory, and tells it as it was then.
func TestQueue(t *testing.T) {
	d := made(t, 9)
	for i, at := range []int{8, 0, 8, 3} {
		write(t, d, at, i)
	}
	list := d.Queue()
	clear(list[:cap(list)])
	queue(t, d, 8, 0, 8, 3)
	list = d.Queue()
	write(t, d, 1, 1)
	d.Flush()
	if !slices.Equal(list, []int{8, 0, 8, 3}) {
		t.Errorf("P3.1: Queue is now %v", list)
	}
}

// model is a disk told by all that was done to it since it was new: what it answers is found by looking through that.
type model struct {
	size  int
	dead  bool
	left  int // below 0: it isn't armed
	deeds int
	cache []cached
	safe  []cached
}

type cached struct {
	at int
	s  api.Sector
}

func (m *model) find(at int) (api.Sector, api.Errno) {
	if at < 0 || at >= m.size {
		return api.Sector{}, api.ErrInval
	}
	if m.dead {
		return api.Sector{}, api.ErrIo
	}
	var found api.Sector
	for _, w := range append(slices.Clone(m.safe), m.cache...) {
		if w.at == at {
			found = w.s
		}
	}
	return found, api.OK
}

// deed tells whether one is done.
func (m *model) deed() api.Errno {
	if m.dead || m.left == 0 {
		m.dead, m.left = true, -1
		return api.ErrIo
	}
	m.left = max(-1, m.left-1)
	m.deeds++
	return api.OK
}

func (m *model) write(at int, s api.Sector) api.Errno {
	if _, e := m.find(at); e != api.OK {
		return e
	}
	m.cache = append(m.cache, cached{at, s})
	return m.deed()
}

func (m *model) flush() api.Errno {
	e := m.deed()
	if e == api.OK {
		m.safe, m.cache = append(m.safe, m.cache...), nil
	}
	return e
}

func (m *model) crash(keep []bool) {
	for i, w := range m.cache {
		if i < len(keep) && keep[i] {
			m.safe = append(m.safe, w)
		}
	}
	m.cache, m.dead, m.left = nil, false, -1
}

func (m *model) twin() *model {
	t := *m
	t.cache, t.safe = slices.Clone(m.cache), slices.Clone(m.safe)
	return &t
}

// last: of each sector what stands on the disk.
func (m *model) last() []api.Sector {
	list := make([]api.Sector, m.size)
	for _, w := range m.safe {
		list[w.at] = w.s
	}
	return list
}

func (m *model) same(o *model) bool {
	return m.dead == o.dead && m.left == o.left && slices.Equal(m.cache, o.cache) && slices.Equal(m.last(), o.last())
}

// check holds a disk against its model, in all that it tells.
func (m *model) check(t *testing.T, d *disk.Disk) {
	t.Helper()
	for at := -1; at <= m.size; at++ {
		want, e := m.find(at)
		if s, got := d.Read(at); s != want || got != e {
			t.Fatalf("P3.1: Read(%d) = % x.., %v; want % x.., %v", at, s[:4], got, want[:4], e)
		}
	}
	places := []int{}
	for _, w := range m.cache {
		places = append(places, w.at)
	}
	if queue := d.Queue(); !slices.Equal(queue, places) || d.Dead() != m.dead || d.Deeds() != m.deeds || d.Size() != m.size {
		t.Fatalf("P3.1: queue %v, dead %v, %d deeds, %d sectors; want %v, %v, %d, %d", queue, d.Dead(), d.Deeds(), d.Size(), places, m.dead, m.deeds, m.size)
	}
}

// step does one thing to both.
func (m *model) step(t *testing.T, d *disk.Disk, r *rand.Rand) {
	t.Helper()
	switch r.Intn(8) {
	case 0:
		if got, want := d.Flush(), m.flush(); got != want {
			t.Fatalf("P3.1: Flush = %v; want %v", got, want)
		}
	case 1:
		n := r.Intn(6) - 1
		d.Arm(n)
		if !m.dead {
			m.left = n
		}
	case 2:
		keep := subset(r.Intn(5), r.Intn(32))
		d.Crash(keep...)
		m.crash(keep)
	default:
		at, s := r.Intn(m.size+2)-1, filled(r.Intn(2))
		if got, want := d.Write(at, s), m.write(at, s); got != want {
			t.Fatalf("P3.1: Write(%d) = %v; want %v", at, got, want)
		}
	}
}

// P3.1, P3.2, P3.3: all calls, one behind the other, on disks and their twins, are as the model has them.
func TestModel(t *testing.T) {
	random := rand.New(rand.NewSource(3))
	alike := 0
	for range 400 {
		size := 1 + random.Intn(3)
		disks := []*disk.Disk{made(t, size), made(t, size)}
		models := []*model{{size: size, left: -1}, {size: size, left: -1}}
		for range 60 {
			i := random.Intn(len(disks))
			models[i].step(t, disks[i], random)
			models[i].check(t, disks[i])
			if random.Intn(20) == 0 {
				disks = append(disks, disks[i].Twin())
				models = append(models, models[i].twin())
			}
			k := random.Intn(len(disks))
			want := models[i].same(models[k])
			same(t, disks[i], disks[k], want, "as the model has it")
			if want && i != k {
				alike++
			}
		}
		for i := range disks {
			models[i].check(t, disks[i])
		}
	}
	if alike < 100 {
		t.Errorf("P3.3: too few disks were alike for this test to tell anything: %d", alike)
	}
}

// P1: each call ends, whatever it is given, and none panics.
func TestNoPanic(t *testing.T) {
	for _, n := range []int{math.MinInt, math.MinInt32, -1, 0, 1, 2, 65535, 65536, 65537, math.MaxInt32, math.MaxInt} {
		d := made(t, 2)
		disk.New(n)
		for range 2 {
			d.Read(n)
			d.Write(n, api.Sector{1})
			d.Arm(n)
			d.Flush()
			d.Write(1, api.Sector{2})
			d.Twin().Crash(make([]bool, 300)...)
			d.Crash(nil...)
		}
		if d.Same(nil) || d.Size() != 2 {
			t.Errorf("P1: behind %d: %d sectors", n, d.Size())
		}
	}
}
