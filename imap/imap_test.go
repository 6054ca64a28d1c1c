package imap_test

import (
	"math"
	"math/big"
	"math/rand"
	"slices"
	"testing"

	"drumlin/api"
	"drumlin/codec"
	"drumlin/imap"
)

// ends are numbers at which a sum or a difference may wrap round.
var ends = []int{math.MinInt, math.MinInt + 1, math.MinInt + 65535, -1 << 32, -65536, -65535, -101, -100, -2, -1, 0, 1, 2, 3, 9, 10, 11, 19, 20, 21, 99, 100, 101, 199, 200, 201, 65534, 65535, 65536, 1 << 32, 1<<32 + 1, math.MaxInt - 65535, math.MaxInt - 100, math.MaxInt - 1, math.MaxInt}

// model is a map as the document tells it: the slot of each number, that of 0 not used.
type model struct {
	slots []codec.Slot
}

func made(n int) (*imap.Map, *model) {
	size := n
	if n < 1 {
		size = 1
	} else if n > 200 {
		size = 200
	}
	return imap.New(n), &model{make([]codec.Slot, size+1)}
}

func loaded(t *testing.T, m *model) *imap.Map {
	t.Helper()
	x, e := imap.Load(m.slots[1:]...)
	if e != api.OK || x == nil {
		t.Fatalf("P10.3: Load(%v) = %v", m.slots[1:], e)
	}
	return x
}

// some is a slot that may be, often one at the edge.
func some(r *rand.Rand) codec.Slot {
	pick := func(list ...int) int { return list[r.Intn(len(list))] }
	return codec.Slot{At: pick(0, 1, 255, 256, 65535, r.Intn(65536)), Version: uint32(pick(0, 1, math.MaxUint32, r.Intn(1<<32))), Links: pick(0, 1, 99, 100, 101, 65535, r.Intn(65536)), Kind: r.Intn(3)}
}

func (m *model) has(num int) bool {
	return num > 0 && num < len(m.slots)
}

func may(s codec.Slot) bool {
	return s.At >= 0 && s.At <= 65535 && s.Links >= 0 && s.Links <= 65535 && s.Kind >= 0 && s.Kind <= 2
}

func (m *model) set(num int, s codec.Slot) api.Errno {
	if !m.has(num) || !may(s) {
		return api.ErrInval
	}
	m.slots[num] = s
	return api.OK
}

func (m *model) alloc(kind int) (int, uint32, api.Errno) {
	if kind != 1 && kind != 2 {
		return 0, 0, api.ErrInval
	}
	for num, s := range m.slots {
		if num > 0 && s.Kind == 0 {
			version := uint32(0)
			if s.Version != math.MaxUint32 {
				version = s.Version + 1
			}
			m.slots[num] = codec.Slot{Version: version, Kind: kind}
			return num, version, api.OK
		}
	}
	return 0, 0, api.ErrNospc
}

func (m *model) release(num int) api.Errno {
	if !m.has(num) {
		return api.ErrInval
	}
	if m.slots[num].Kind == 0 {
		return api.ErrNoent
	}
	m.slots[num] = codec.Slot{Version: m.slots[num].Version}
	return api.OK
}

func (m *model) link(num, n int) (int, api.Errno) {
	if !m.has(num) {
		return 0, api.ErrInval
	}
	if m.slots[num].Kind == 0 {
		return 0, api.ErrNoent
	}
	sum := new(big.Int).Add(big.NewInt(int64(m.slots[num].Links)), big.NewInt(int64(n)))
	if sum.Sign() < 0 || sum.Cmp(big.NewInt(100)) > 0 {
		return 0, api.ErrMlink
	}
	m.slots[num].Links = int(sum.Int64())
	return m.slots[num].Links, api.OK
}

// sectors are ten slots in each, byte by byte as layer 5 lays them.
func (m *model) sectors(t *testing.T) []api.Sector {
	t.Helper()
	var list []api.Sector
	for at := 1; at < len(m.slots); at += 10 {
		s, e := codec.WriteSlots(m.slots[at:min(at+10, len(m.slots))]...)
		if e != api.OK {
			t.Fatalf("no sector of %v: %v", m.slots, e)
		}
		list = append(list, s)
	}
	return list
}

// same is whether all that a map tells is what the model tells.
func (m *model) same(t *testing.T, x *imap.Map) {
	t.Helper()
	var used []int
	for num, s := range m.slots[1:] {
		if got, e := x.Get(num + 1); got != s || e != api.OK {
			t.Errorf("P10.1: Get(%d) = %+v, %v; want %+v", num+1, got, e, s)
		}
		if s.Kind != 0 {
			used = append(used, num+1)
		}
	}
	if x.Size() != len(m.slots)-1 || x.Count() != len(used) || !slices.Equal(x.Used(), used) {
		t.Errorf("P10.1: Size %d, Count %d, Used %v; want %d, %d, %v", x.Size(), x.Count(), x.Used(), len(m.slots)-1, len(used), used)
	}
	if got := x.Slots(); !slices.Equal(got, m.slots[1:]) {
		t.Errorf("P10.3: Slots = %v; want %v", got, m.slots[1:])
	}
}

func (m *model) allocs(t *testing.T, x *imap.Map, kind int) {
	t.Helper()
	num, version, e := x.Alloc(kind)
	if n, v, want := m.alloc(kind); num != n || version != v || e != want {
		t.Errorf("P10.1: Alloc(%d) = %d, %d, %v; want %d, %d, %v", kind, num, version, e, n, v, want)
	}
}

func (m *model) releases(t *testing.T, x *imap.Map, num int) {
	t.Helper()
	if e, want := x.Release(num), m.release(num); e != want {
		t.Errorf("P10.1: Release(%d) = %v; want %v", num, e, want)
	}
}

func (m *model) links(t *testing.T, x *imap.Map, num, n int) {
	t.Helper()
	got, e := x.Link(num, n)
	if k, want := m.link(num, n); got != k || e != want {
		t.Errorf("P10.1: Link(%d, %d) = %d, %v; want %d, %v", num, n, got, e, k, want)
	}
}

func (m *model) sets(t *testing.T, x *imap.Map, num int, s codec.Slot) {
	t.Helper()
	if e, want := x.Set(num, s), m.set(num, s); e != want {
		t.Errorf("P10.1: Set(%d, %+v) = %v; want %v", num, s, e, want)
	}
}

// P10.1: the document's example.
func TestExample(t *testing.T) {
	x := imap.New(2)
	for i, want := range []struct {
		kind, num int
		version   uint32
		e         api.Errno
	}{{api.File, 1, 1, api.OK}, {api.Dir, 2, 1, api.OK}, {api.File, 0, 0, api.ErrNospc}, {api.File, 1, 2, api.OK}} {
		if i == 3 {
			if e := x.Release(1); e != api.OK {
				t.Errorf("P10.1: Release(1) = %v", e)
			}
		}
		if num, version, e := x.Alloc(want.kind); num != want.num || version != want.version || e != want.e {
			t.Errorf("P10.1: Alloc(%d) = %d, %d, %v", want.kind, num, version, e)
		}
	}
}

// P10.1: a new map has as many slots as may be, each all 0.
func TestNew(t *testing.T) {
	for _, n := range ends {
		x, m := made(n)
		m.same(t, x)
		for range x.Size() + 1 {
			m.allocs(t, x, api.Dir)
		}
		m.same(t, x)
	}
}

// P10.1: of numbers that there aren't nothing is told, and nothing changes.
func TestNoNumber(t *testing.T) {
	for _, size := range []int{1, 10, 200} {
		x, m := made(size)
		for range size {
			m.allocs(t, x, api.File)
		}
		for _, num := range append([]int{size + 1, -size}, ends...) {
			if num >= 1 && num <= size {
				continue
			}
			if s, e := x.Get(num); s != (codec.Slot{}) || e != api.ErrInval {
				t.Errorf("P10.1: Get(%d) = %v, %v", num, s, e)
			}
			m.sets(t, x, num, codec.Slot{Kind: 2})
			m.releases(t, x, num)
			m.links(t, x, num, 1)
			m.links(t, x, num, 1000)
		}
		m.same(t, x)
	}
}

// P10.1: what a slot may be.
func TestSet(t *testing.T) {
	for _, n := range ends {
		for _, old := range []codec.Slot{{}, {At: 7, Version: 6, Links: 5, Kind: 2}} {
			for _, s := range []codec.Slot{{At: n, Version: 1, Links: 1, Kind: 1}, {At: 1, Version: 1, Links: n, Kind: 1}, {At: 1, Version: 1, Links: 1, Kind: n}, {At: n, Links: n, Kind: n}} {
				x, m := made(3)
				m.sets(t, x, 2, old)
				m.sets(t, x, 2, s)
				m.same(t, x)
			}
		}
	}
}

// P10.1: kinds that there aren't, of a map that has room and of one that has none: the least error is told.
func TestAllocErrors(t *testing.T) {
	x, m := made(2)
	for range 3 {
		for _, kind := range ends {
			if kind != api.File && kind != api.Dir {
				m.allocs(t, x, kind)
			}
		}
		m.same(t, x)
		m.allocs(t, x, api.Dir)
		m.same(t, x)
	}
}

// P10.1: what was where a number is given is gone, but the Version.
func TestAllocGiven(t *testing.T) {
	x, m := made(3)
	m.sets(t, x, 1, codec.Slot{At: 3, Version: 8, Links: 4, Kind: api.File})
	m.sets(t, x, 2, codec.Slot{At: 5, Version: 9, Links: 6})
	m.allocs(t, x, api.Dir)
	if s, _ := x.Get(2); s != (codec.Slot{Version: 10, Kind: api.Dir}) {
		t.Errorf("P10.1: %+v", s)
	}
	m.releases(t, x, 1)
	if s, _ := x.Get(1); s != (codec.Slot{Version: 8}) {
		t.Errorf("P10.1: %+v", s)
	}
	m.same(t, x)
}

// P10.1: what is free isn't released, nor has it names, whatever its slot has.
func TestFree(t *testing.T) {
	x, m := made(2)
	m.sets(t, x, 1, codec.Slot{At: 3, Version: 8, Links: 4})
	m.releases(t, x, 1)
	m.releases(t, x, 2)
	for _, n := range ends {
		m.links(t, x, 1, n)
		m.links(t, x, 2, n)
	}
	m.same(t, x)
	if e := x.Release(1); e != api.ErrNoent {
		t.Errorf("P10.1: Release = %v", e)
	}
}

// P10.1: names are never fewer than 0, nor more than 100; not even where a sum has no room, or where there were more.
func TestLink(t *testing.T) {
	for _, old := range []int{0, 1, 50, 99, 100, 101, 150, 65535} {
		for _, n := range append([]int{-old - 1, -old, 100 - old, 101 - old, 49, 50, 51}, ends...) {
			x, m := made(2)
			m.sets(t, x, 2, codec.Slot{At: 4, Version: 3, Links: old, Kind: api.File})
			m.links(t, x, 2, n)
			m.same(t, x)
		}
	}
}

// P10.1: any calls, one behind the other.
func TestModel(t *testing.T) {
	random := rand.New(rand.NewSource(10))
	for range 100 {
		x, m := made(1 + random.Intn(25))
		for range 200 {
			num := random.Intn(len(m.slots)+2) - 1
			switch random.Intn(9) {
			case 0, 1, 2:
				m.allocs(t, x, 1+random.Intn(2))
			case 3, 4:
				m.releases(t, x, num)
			case 5, 6:
				m.links(t, x, num, random.Intn(120)-50)
			case 7:
				m.allocs(t, x, random.Intn(5)-1)
			case 8:
				s := some(random)
				s.Kind = random.Intn(5) - 1
				m.sets(t, x, num, s)
			}
			m.same(t, x)
		}
	}
}

// P10.2: a number is given again just when it was free between, and each time of a Version that is one more.
func TestVersions(t *testing.T) {
	random := rand.New(rand.NewSource(102))
	x := imap.New(7)
	given, last := [8]int{}, [8]uint32{}
	for range 5000 {
		if random.Intn(2) == 0 {
			num, version, e := x.Alloc(1 + random.Intn(2))
			if e != api.OK {
				continue
			}
			if given[num] != 0 || version != last[num]+1 {
				t.Fatalf("P10.2: %d is given of the version %d behind %d, given %d", num, version, last[num], given[num])
			}
			given[num], last[num] = 1, version
		} else if num := 1 + random.Intn(7); x.Release(num) == api.OK {
			given[num] = 0
		}
		x.Link(1+random.Intn(7), random.Intn(3)-1)
		for num := 1; num < 8; num++ {
			if s, _ := x.Get(num); s.Version != last[num] || (s.Kind != api.Free) != (given[num] != 0) {
				t.Fatalf("P10.2: %d is %+v", num, s)
			}
		}
	}
}

// P10.2: behind the greatest Version comes 0.
func TestLastVersion(t *testing.T) {
	x, m := made(1)
	m.sets(t, x, 1, codec.Slot{Version: math.MaxUint32 - 1})
	for _, want := range []uint32{math.MaxUint32, 0, 1} {
		if num, version, e := x.Alloc(api.File); num != 1 || version != want || e != api.OK {
			t.Errorf("P10.2: Alloc = %d, %d, %v; want the version %d", num, version, e, want)
		}
		x.Release(1)
	}
}

// P10.3: of each size: what Load takes is what Slots tells, what Read takes is what Sectors makes.
func TestSlotsSectors(t *testing.T) {
	random := rand.New(rand.NewSource(103))
	for size := 1; size <= 200; size++ {
		m := &model{make([]codec.Slot, size+1)}
		for num := 1; num <= size; num++ {
			m.slots[num] = some(random)
		}
		x := loaded(t, m)
		m.same(t, x)
		again, e := imap.Load(x.Slots()...)
		if e != api.OK {
			t.Fatalf("P10.3: Load of Slots: %v", e)
		}
		m.same(t, again)
		sectors := x.Sectors()
		if !slices.Equal(sectors, m.sectors(t)) || len(sectors) != (size+9)/10 {
			t.Errorf("P10.3: of %d: Sectors are %d, others than they should be", size, len(sectors))
		}
		back, e := imap.Read(size, m.sectors(t)...)
		if e != api.OK {
			t.Fatalf("P10.3: Read of %d: %v", size, e)
		}
		m.same(t, back)
	}
}

// P10.3: what no map has isn't loaded, wherever it stands.
func TestLoadErrors(t *testing.T) {
	refused := func(slots ...codec.Slot) {
		t.Helper()
		if x, e := imap.Load(slots...); x != nil || e != api.ErrInval {
			t.Errorf("P10.3: Load(%v) = %v, %v", slots, x, e)
		}
	}
	refused()
	refused([]codec.Slot{}...)
	refused(make([]codec.Slot, 201)...)
	refused(make([]codec.Slot, 4000)...)
	for _, n := range ends {
		for i := range 3 {
			for _, s := range []codec.Slot{{At: n}, {Links: n}, {Kind: n}} {
				list := make([]codec.Slot, 3)
				list[i] = s
				if !may(s) {
					refused(list...)
				} else if _, e := imap.Load(list...); e != api.OK {
					t.Errorf("P10.3: Load(%v) = %v", list, e)
				}
			}
		}
	}
}

func formless(t *testing.T, what string, n int, s ...api.Sector) {
	t.Helper()
	if x, e := imap.Read(n, s...); x != nil || e != api.ErrForm {
		t.Errorf("P10.3: %s: Read of %d, %d sectors = %v, %v", what, n, len(s), x, e)
	}
}

// P10.3: maps of another size, or of none.
func TestReadSizes(t *testing.T) {
	for _, size := range []int{1, 9, 10, 11, 19, 20, 21, 199, 200} {
		s := imap.New(size).Sectors()
		for n := 1; n <= 200; n++ {
			if n != size {
				formless(t, "another size", n, s...)
			}
		}
		for _, n := range ends {
			if n >= 1 && n <= 200 {
				continue
			}
			for _, list := range [][]api.Sector{nil, s, {{}}} {
				if x, e := imap.Read(n, list...); x != nil || e != api.ErrInval {
					t.Errorf("P10.3: Read(%d) = %v, %v", n, x, e)
				}
			}
		}
	}
}

// P10.3: sectors that are wanting, twice there, changed, of another kind, or parted otherwise.
func TestReadErrors(t *testing.T) {
	random := rand.New(rand.NewSource(104))
	m := &model{make([]codec.Slot, 24)}
	for num := range m.slots {
		m.slots[num] = some(random)
	}
	s := m.sectors(t)
	formless(t, "none", 23)
	formless(t, "none", 1)
	formless(t, "one is wanting", 23, s[:2]...)
	formless(t, "the first is wanting", 23, s[1:]...)
	formless(t, "one more", 23, append(slices.Clone(s), s[2])...)
	formless(t, "one more", 23, append(slices.Clone(s), api.Sector{})...)
	formless(t, "the last is first", 23, s[2], s[0], s[1])
	formless(t, "in another order", 23, s[0], s[2], s[1])
	formless(t, "far too many", 200, slices.Repeat(s, 300)...)
	empty, _ := codec.WriteSlots()
	formless(t, "an empty one behind", 20, s[0], s[1], empty)
	formless(t, "an empty one ahead", 20, empty, s[0], s[1])
	formless(t, "an empty one alone", 1, empty)
	for cut := 1; cut < 10; cut++ {
		first, _ := codec.WriteSlots(m.slots[1 : 1+cut]...)
		second, _ := codec.WriteSlots(m.slots[1+cut : 11]...)
		formless(t, "parted otherwise", 10, first, second)
	}
	uses, _ := codec.WriteUses(codec.Use{})
	formless(t, "another kind", 1, uses)
	for k := range s {
		for i := range s[k] {
			list := slices.Clone(s)
			list[k][i] ^= byte(1 + random.Intn(255))
			formless(t, "a byte is another one", 23, list...)
		}
	}
}

// P10.3: a sector may tell of an At that no map has.
func TestReadAt(t *testing.T) {
	for at, want := range map[int]api.Errno{65535: api.OK, 65536: api.ErrForm, math.MaxUint32: api.ErrForm} {
		s, e := codec.WriteSlots(codec.Slot{}, codec.Slot{At: at, Kind: 1})
		if e != api.OK {
			t.Fatalf("no sector: %v", e)
		}
		if x, e := imap.Read(2, s); e != want || (x == nil) != (e != api.OK) {
			t.Errorf("P10.3: At %d: Read = %v, %v", at, x, e)
		}
	}
}

// Rule 5: nothing that is handed in is changed or kept, and answers share no memory.
func TestKept(t *testing.T) {
	list := []codec.Slot{{Version: 1, Kind: 1}, {Version: 2}, {Version: 3, Kind: 2}}
	kept := slices.Clone(list)
	x, _ := imap.Load(list[:2]...)
	x.Alloc(2)
	x.Link(1, 5)
	if !slices.Equal(list, kept) {
		t.Errorf("rule 5: %v is %v", kept, list)
	}
	list[0].Links = 77
	want := []codec.Slot{{Version: 1, Links: 5, Kind: 1}, {Version: 3, Kind: 2}}
	slots, used, sectors := x.Slots(), x.Used(), x.Sectors()
	_ = append(slots[:1], codec.Slot{At: 9})
	slots[0], used[0], sectors[0] = codec.Slot{At: 8}, 8, api.Sector{}
	if !slices.Equal(x.Slots(), want) || !slices.Equal(x.Used(), []int{1, 2}) {
		t.Errorf("rule 5: %v", x.Slots())
	}
	sectors = x.Sectors()
	before := slices.Clone(sectors)
	back, e := imap.Read(2, sectors...)
	if e != api.OK || !slices.Equal(sectors, before) {
		t.Fatalf("rule 5: Read = %v", e)
	}
	back.Release(1)
	if !slices.Equal(x.Slots(), want) {
		t.Errorf("rule 5: %v", x.Slots())
	}
}

// P1: no call panics, whatever it is given.
func TestNoPanic(t *testing.T) {
	for _, a := range ends {
		for _, b := range ends {
			x := imap.New(a)
			x.Alloc(b)
			x.Alloc(1)
			x.Set(b, codec.Slot{At: a, Links: b, Kind: a})
			x.Link(1, b)
			x.Link(a, b)
			x.Get(b)
			x.Release(b)
			imap.Load(codec.Slot{At: a, Links: b, Kind: 1})
			imap.Read(a, x.Sectors()...)
		}
		imap.Read(a)
		imap.Read(a, api.Sector{}, api.Sector{1, 2, 3})
	}
}
