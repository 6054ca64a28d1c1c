package node_test

import (
	"bytes"
	"math/rand"
	"slices"
	"testing"

	"drumlin/api"
	"drumlin/codec"
	"drumlin/node"
)

// model is a file as the document tells it: bytes, and of each part what was done to it since it was committed.
type model struct {
	size    int
	time    uint32
	bytes   []byte // all that may be
	blocks  map[int]bool
	written map[int]bool // of its blocks, or moved
	leaves  map[int]bool // with a block that was written, or became a hole; or moved
	single  bool
	double  bool
	changed bool                // the inode
	disk    map[codec.Entry]int // what stands where
}

func newModel() *model {
	return &model{bytes: make([]byte, api.MaxSize), blocks: map[int]bool{}, written: map[int]bool{}, leaves: map[int]bool{}, changed: true, disk: map[codec.Entry]int{}}
}

// hit: a block was written, or became a hole.
func (m *model) hit(i int) {
	m.changed = true
	if i >= 40 {
		m.leaves[(i-40)/32] = true
		m.double = true
	} else if i >= 8 {
		m.single = true
	}
}

func (m *model) write(at int, b []byte) {
	if len(b) == 0 {
		return
	}
	copy(m.bytes[at:], b)
	for i := at / 128; i <= (at+len(b)-1)/128; i++ {
		m.blocks[i], m.written[i] = true, true
		m.hit(i)
	}
	m.size = max(m.size, at+len(b))
}

func (m *model) truncate(size int) {
	if size < m.size {
		if i := size / 128; size%128 != 0 && m.blocks[i] {
			m.written[i] = true
			m.hit(i)
		}
		for i := range m.blocks {
			if i*128 >= size {
				delete(m.blocks, i)
				delete(m.written, i)
				m.hit(i)
			}
		}
		clear(m.bytes[size:])
	}
	m.changed = m.changed || size != m.size
	m.size = size
}

// move: one of the parts that stand somewhere.
func (m *model) move(e codec.Entry) {
	m.changed = true
	switch e.Kind {
	case codec.Data:
		m.written[e.Index] = true
		m.hit(e.Index)
	case codec.Leaf:
		m.leaves[e.Index] = true
		m.double = true
	case codec.Single:
		m.single = true
	case codec.Double:
		m.double = true
	}
}

func (m *model) indexes() []int {
	var list []int
	for i := range api.MaxBlocks {
		if m.blocks[i] {
			list = append(list, i)
		}
	}
	return list
}

// holds: has it a block from one index up to (not) another one?
func (m *model) holds(from, to int) bool {
	for i := from; i < to; i++ {
		if m.blocks[i] {
			return true
		}
	}
	return false
}

func (m *model) pending() []codec.Entry {
	var list []codec.Entry
	for i := range api.MaxBlocks {
		if m.blocks[i] && m.written[i] {
			list = append(list, entry(codec.Data, i))
		}
	}
	for k := range 32 {
		if m.leaves[k] && m.holds(40+32*k, 72+32*k) {
			list = append(list, entry(codec.Leaf, k))
		}
	}
	if m.single && m.holds(8, 40) {
		list = append(list, entry(codec.Single, 0))
	}
	if m.double && m.holds(40, 1064) {
		list = append(list, entry(codec.Double, 0))
	}
	if m.changed {
		list = append(list, entry(codec.Node, 0))
	}
	return list
}

// live: which parts stand somewhere as they are.
func (m *model) live() map[codec.Entry]int {
	list := map[codec.Entry]int{}
	pending := m.pending()
	for e, at := range m.disk {
		has := e.Kind == codec.Node || e.Kind == codec.Data && m.blocks[e.Index] || e.Kind == codec.Leaf && m.holds(40+32*e.Index, 72+32*e.Index) || e.Kind == codec.Single && m.holds(8, 40) || e.Kind == codec.Double && m.holds(40, 1064)
		if has && !slices.Contains(pending, e) {
			list[e] = at
		}
	}
	return list
}

func sorted(list map[codec.Entry]int) []int {
	var all []int
	for _, at := range list {
		all = append(all, at)
	}
	slices.Sort(all)
	return all
}

// commit answers the sectors that are dead then.
func (m *model) commit(at []int) []int {
	next := m.live()
	for i, e := range m.pending() {
		next[e] = at[i]
	}
	old := sorted(m.disk)
	m.disk = next
	m.written, m.leaves = map[int]bool{}, map[int]bool{}
	m.single, m.double, m.changed = false, false, false
	return slices.DeleteFunc(old, func(at int) bool { return slices.Contains(sorted(next), at) })
}

// needs: would a block be asked for, if bytes of it from one place up to another one are?
func (m *model) needs(from, to int) bool {
	for i := from / 128; from < to && i*128 < to; i++ {
		if m.blocks[i] && !m.written[i] {
			return true
		}
	}
	return false
}

// needsWrite: the first block or the last one may have to be read.
func (m *model) needsWrite(at, size int) bool {
	for i := at / 128; size > 0 && i*128 < at+size; i++ {
		if (at > i*128 || at+size < i*128+128) && m.needs(i*128, i*128+1) {
			return true
		}
	}
	return false
}

// compare: is a node what its model is?
func compare(t *testing.T, r *rand.Rand, n *node.Node, m *model, s *store, what string) {
	t.Helper()
	indexes := m.indexes()
	cost := len(indexes) + 1
	for k := range 33 {
		if k < 32 && m.holds(40+32*k, 72+32*k) || k == 32 && m.holds(40, 1064) {
			cost++
		}
	}
	if m.holds(8, 40) {
		cost++
	}
	if n.Size() != m.size || n.Time() != m.time || !slices.Equal(n.Indexes(), indexes) || n.Cost() != cost {
		t.Fatalf("P13.1: %s: size %d, time %d, blocks %v, cost %d; want %d, %d, %v, %d", what, n.Size(), n.Time(), n.Indexes(), n.Cost(), m.size, m.time, indexes, cost)
	}
	if !slices.Equal(n.Pending(), m.pending()) || !slices.Equal(n.Sectors(), sorted(m.disk)) {
		t.Fatalf("P13.2: %s: Pending %v, Sectors %v; want %v, %v", what, n.Pending(), n.Sectors(), m.pending(), sorted(m.disk))
	}
	live := m.live()
	for e, at := range m.disk {
		if n.Live(e, at) != (live[e] == at) || n.Live(e, at+1) {
			t.Fatalf("P13.4: %s: Live(%v, %d) = %v", what, e, at, n.Live(e, at))
		}
	}
	if len(n.Pending()) == 0 && len(n.Sectors()) != n.Cost() {
		t.Fatalf("P13.3: %s: Cost %d, sectors %v", what, n.Cost(), n.Sectors())
	}
	at, size := place(r), r.Intn(400)
	b, e := n.Read(at, size, s.read)
	if want := m.bytes[min(at, m.size):min(at+size, m.size)]; e != api.OK || !bytes.Equal(b, want) {
		t.Fatalf("P13.1: %s: Read(%d, %d) = %d bytes, %v; want %d", what, at, size, len(b), e, len(want))
	}
	broken := func(int) (api.Sector, api.Errno) { return api.Sector{}, api.ErrIo }
	if b, e := n.Read(at, size, broken); (e == api.ErrIo) != m.needs(at, min(at+size, m.size)) || e != api.OK && b != nil {
		t.Fatalf("P13.1: %s: Read(%d, %d) of a dead disk = %v, %v", what, at, size, b, e)
	}
}

// place is one, near to an edge more often than not.
func place(r *rand.Rand) int {
	edges := []int{0, 128, 1024, 5120, 5120 + 4096, 5120 + 2*4096, api.MaxSize - 4096, api.MaxSize}
	if r.Intn(5) == 0 {
		return r.Intn(api.MaxSize + 1)
	}
	return min(max(edges[r.Intn(len(edges))]+r.Intn(600)-300, 0), api.MaxSize)
}

// walk is a random walk of a node and its model over a disk of their own.
type walk struct {
	n    *node.Node
	m    *model
	s    *store
	next int
}

// step does one thing to both; of a dead disk first, where that must be refused.
func (w *walk) step(t *testing.T, r *rand.Rand) string {
	t.Helper()
	broken := func(int) (api.Sector, api.Errno) { return api.Sector{1}, api.ErrIo }
	switch r.Intn(9) {
	case 0, 1, 2:
		at := place(r)
		b := make([]byte, min(r.Intn([]int{2, 130, 700}[r.Intn(3)]), api.MaxSize-at))
		r.Read(b)
		e := w.n.Clone().Write(at, b, broken)
		if (e == api.ErrIo) != w.m.needsWrite(at, len(b)) {
			t.Fatalf("P13.1: Write(%d, %d bytes) of a dead disk = %v", at, len(b), e)
		}
		if e != api.OK {
			w.n.Write(at, b, broken)
			compare(t, r, w.n, w.m, w.s, "Write that is refused")
		}
		if e := w.n.Write(at, b, w.s.read); e != api.OK {
			t.Fatalf("P13.1: Write(%d, %d bytes) = %v", at, len(b), e)
		}
		w.m.write(at, b)
		return "Write"
	case 3:
		size := place(r)
		if r.Intn(2) == 0 {
			size = min(w.m.size, max(0, w.m.size-r.Intn(500)))
		}
		if e := w.n.Clone().Truncate(size, broken); (e == api.ErrIo) != (size%128 != 0 && w.m.needs(size, size+1)) {
			t.Fatalf("P13.1: Truncate(%d) of a dead disk = %v", size, e)
		} else if e != api.OK {
			w.n.Truncate(size, broken)
			compare(t, r, w.n, w.m, w.s, "Truncate that is refused")
		}
		if e := w.n.Truncate(size, w.s.read); e != api.OK {
			t.Fatalf("P13.1: Truncate(%d) = %v", size, e)
		}
		w.m.truncate(size)
		return "Truncate"
	case 4:
		time := uint32(r.Intn(3))
		w.n.SetTime(time)
		w.m.changed = w.m.changed || time != w.m.time
		w.m.time = time
		return "SetTime"
	case 5:
		w.move(t, r)
		return "Move"
	case 6:
		w.commit(t, r)
		return "Commit"
	case 7:
		other := w.n.Clone()
		w.n.SetTime(99)
		w.n.Write(0, []byte("other"), w.s.read)
		w.n.Truncate(1, w.s.read)
		w.n = other
		return "Clone"
	}
	if len(w.n.Pending()) == 0 {
		at := w.m.disk[entry(codec.Node, 0)]
		w.n = loads(t, w.s, at)
	}
	return "Load"
}

// move: any of the parts that stand somewhere.
func (w *walk) move(t *testing.T, r *rand.Rand) {
	t.Helper()
	var list []codec.Entry
	for e := range w.m.disk {
		list = append(list, e)
	}
	if len(list) == 0 {
		return
	}
	slices.SortFunc(list, func(a, b codec.Entry) int { return w.m.disk[a] - w.m.disk[b] })
	e := list[r.Intn(len(list))]
	_, live := w.m.live()[e]
	ok, fault := w.n.Move(e, w.m.disk[e], func(int) (api.Sector, api.Errno) { return api.Sector{}, api.ErrIo })
	if live && e.Kind == codec.Data {
		if ok || fault != api.ErrIo {
			t.Fatalf("P13.4: Move(%v) of a dead disk = %v, %v", e, ok, fault)
		}
		compare(t, r, w.n, w.m, w.s, "Move that is refused")
		ok, fault = w.n.Move(e, w.m.disk[e], w.s.read)
	}
	if ok != live || fault != api.OK {
		t.Fatalf("P13.4: Move(%v) = %v, %v; live %v", e, ok, fault, live)
	}
	if live {
		w.m.move(e)
	}
}

// commit, to sectors in no order; what is dead is no more on the disk.
func (w *walk) commit(t *testing.T, r *rand.Rand) {
	t.Helper()
	pending := w.n.Pending()
	var at []int
	for _, i := range r.Perm(len(pending)) {
		at = append(at, w.next+i)
	}
	w.next += len(pending)
	items, dead, e := w.n.Commit(at...)
	if want := w.m.commit(at); e != api.OK || len(items) != len(pending) || !slices.Equal(dead, want) {
		t.Fatalf("P13.2: Commit = %d items of %d, dead %v, %v; want %v", len(items), len(pending), dead, e, want)
	}
	for i, x := range items {
		if x.Entry != pending[i] {
			t.Fatalf("P13.2: Commit: item %d is %v; want %v", i, x.Entry, pending[i])
		}
		if x.Entry.Kind == codec.Data && !bytes.Equal(x.Data[:], w.m.bytes[x.Entry.Index*128:][:128]) {
			t.Fatalf("P13.2: Commit: of block %d the bytes are others", x.Entry.Index)
		}
		w.s.sectors[at[i]] = x.Data
	}
	for _, at := range dead {
		delete(w.s.sectors, at)
	}
	if len(w.s.sectors) != w.n.Cost() {
		t.Fatalf("P13.3: Cost %d, but %d sectors", w.n.Cost(), len(w.s.sectors))
	}
}

// P13.1 to P13.4: whatever is done, in whatever order, a node is what its model is.
func TestModel(t *testing.T) {
	for seed := range int64(40) {
		r := rand.New(rand.NewSource(seed))
		w := &walk{node.New(2, 1, api.File), newModel(), newStore(), 1}
		for range 120 {
			what := w.step(t, r)
			compare(t, r, w.n, w.m, w.s, what)
		}
		w.commit(t, r)
		n := loads(t, w.s, w.m.disk[entry(codec.Node, 0)])
		compare(t, r, n, w.m, w.s, "Load")
		if b, e := n.Read(0, api.MaxSize, w.s.read); e != api.OK || !bytes.Equal(b, w.m.bytes[:w.m.size]) {
			t.Fatalf("P13.2: all of it: %d bytes, %v; want %d", len(b), e, w.m.size)
		}
	}
}
