package node_test

import (
	"bytes"
	"math"
	"reflect"
	"slices"
	"testing"

	"drumlin/api"
	"drumlin/codec"
	"drumlin/node"
)

// ends are numbers at the edges of what there is, and far off.
var ends = []int{math.MinInt, math.MinInt + 1, -1 << 32, -129, -128, -1, 0, 1, 127, 128, 129, 1023, 1024, 1025, 5119, 5120, 5121, api.MaxSize - 1, api.MaxSize, api.MaxSize + 1, 1 << 32, math.MaxInt - 1, math.MaxInt}

// store is a stand-in for a disk, which tells what was asked of it.
type store struct {
	sectors map[int]api.Sector
	asked   []int
}

func newStore() *store {
	return &store{sectors: map[int]api.Sector{}}
}

func (s *store) read(at int) (api.Sector, api.Errno) {
	s.asked = append(s.asked, at)
	x, ok := s.sectors[at]
	if !ok {
		return api.Sector{1, 2, 3}, api.ErrIo
	}
	return x, api.OK
}

// deaf is a Reader that nothing is to be asked of.
func deaf(t *testing.T) node.Reader {
	return func(at int) (api.Sector, api.Errno) {
		t.Helper()
		t.Errorf("sector %d was asked for", at)
		return api.Sector{}, api.ErrIo
	}
}

// commit puts all that is pending to sectors from a place on, and into the store.
func commit(t *testing.T, n *node.Node, s *store, from int) []int {
	t.Helper()
	var at []int
	for i := range n.Pending() {
		at = append(at, from+i)
	}
	items, dead, e := n.Commit(at...)
	if e != api.OK || len(items) != len(at) {
		t.Fatalf("P13.2: Commit = %d items, %v", len(items), e)
	}
	for i, x := range items {
		s.sectors[at[i]] = x.Data
	}
	return dead
}

// put is a Write that must be done.
func put(t *testing.T, n *node.Node, s *store, at int, text string) {
	t.Helper()
	if e := n.Write(at, []byte(text), s.read); e != api.OK {
		t.Fatalf("P13.1: Write(%d, %q) = %v", at, text, e)
	}
}

// reads: is this there?
func reads(t *testing.T, n *node.Node, s *store, at, size int, want string) {
	t.Helper()
	if b, e := n.Read(at, size, s.read); e != api.OK || string(b) != want {
		t.Errorf("P13.1: Read(%d, %d) = %q, %v; want %q", at, size, b, e, want)
	}
}

// entry is one of the node that the tests make: New(2, 1, ..).
func entry(kind, index int) codec.Entry {
	return codec.Entry{Kind: kind, Num: 2, Version: 1, Index: index}
}

// shows: what a node is, all of it.
func shows(n *node.Node) []any {
	return []any{n.Num(), n.Version(), n.Kind(), n.Size(), n.Time(), n.Indexes(), n.Cost(), n.Pending(), n.Sectors()}
}

func same(a, b *node.Node) bool {
	return reflect.DeepEqual(shows(a), shows(b))
}

func pends(t *testing.T, n *node.Node, what string, want ...codec.Entry) {
	t.Helper()
	if got := n.Pending(); !slices.Equal(got, want) {
		t.Errorf("P13.2: %s: Pending = %+v; want %+v", what, got, want)
	}
}

func loads(t *testing.T, s *store, at int) *node.Node {
	t.Helper()
	n, e := node.Load(s.sectors[at], at, s.read)
	if e != api.OK {
		t.Fatalf("P13.2: Load(%d) = %v", at, e)
	}
	return n
}

// P13.1, P13.2: the document's example.
func TestExample(t *testing.T) {
	n := node.New(2, 1, api.File)
	if e := n.Write(1100, []byte("ab"), deaf(t)); e != api.OK || !slices.Equal(n.Indexes(), []int{8}) || n.Size() != 1102 {
		t.Errorf("P13.1: Write = %v, blocks %v, size %d", e, n.Indexes(), n.Size())
	}
	pends(t, n, "example", entry(codec.Data, 8), entry(codec.Single, 0), entry(codec.Node, 0))
}

// P13.1: an empty one.
func TestNew(t *testing.T) {
	for _, kind := range []int{api.File, api.Dir} {
		n := node.New(65535, math.MaxUint32, kind)
		if n.Num() != 65535 || n.Version() != math.MaxUint32 || n.Kind() != kind || n.Size() != 0 || n.Time() != 0 || len(n.Indexes()) != 0 || n.Cost() != 1 || len(n.Sectors()) != 0 {
			t.Errorf("P13.1: New = %v", shows(n))
		}
		if p := n.Pending(); !slices.Equal(p, []codec.Entry{{Kind: codec.Node, Num: 65535, Version: math.MaxUint32}}) {
			t.Errorf("P13.2: New: Pending = %v", p)
		}
	}
}

// P13.2: what layer 5 can't write isn't committed, and stays pending.
func TestNewOdd(t *testing.T) {
	for _, num := range []uint32{0, 1, 65535, 65536, math.MaxUint32} {
		for _, kind := range []int{math.MinInt, -1, api.Free, api.File, api.Dir, 3, 256 + api.File, math.MaxInt} {
			n := node.New(num, 9, kind)
			n.Write(5, []byte("a"), deaf(t))
			before := n.Clone()
			items, dead, e := n.Commit(70, 71)
			if num <= 65535 && (kind == api.File || kind == api.Dir) {
				if e != api.OK || len(items) != 2 {
					t.Errorf("P13.2: New(%d, %d): Commit = %v", num, kind, e)
				}
			} else if e != api.ErrInval || items != nil || dead != nil || !same(n, before) {
				t.Errorf("P13.2: New(%d, %d): Commit = %v, %v, %v", num, kind, items, dead, e)
			}
		}
	}
}

// P1, P13.1: Read at all places.
func TestReadEdges(t *testing.T) {
	s := newStore()
	n := node.New(2, 1, api.File)
	put(t, n, s, 130, "abc")
	commit(t, n, s, 50)
	for _, at := range ends {
		for _, size := range ends {
			b, e := n.Read(at, size, s.read)
			if at < 0 || size < 0 {
				if e != api.ErrInval || b != nil {
					t.Errorf("P13.1: Read(%d, %d) = %q, %v", at, size, b, e)
				}
				continue
			}
			want := append(make([]byte, 130), "abc"...)
			want = want[min(at, len(want)):]
			want = want[:min(size, len(want))]
			if e != api.OK || !bytes.Equal(b, want) {
				t.Errorf("P13.1: Read(%d, %d) = %q, %v", at, size, b, e)
			}
		}
	}
}

// P13.1: a Reader is asked for nothing but what is needed; its errors are the call's, whatever it answers beside them.
func TestReaders(t *testing.T) {
	s := newStore()
	n := node.New(2, 1, api.File)
	put(t, n, s, 0, string(bytes.Repeat([]byte("abcd"), 3*32)))
	commit(t, n, s, 50) // blocks 0, 1, 2 at 50, 51, 52
	tests := []struct {
		what string
		do   func(n *node.Node, read node.Reader) api.Errno
		asks []int
	}{
		{"Read of all", func(n *node.Node, r node.Reader) api.Errno { _, e := n.Read(0, 999, r); return e }, []int{50, 51, 52}},
		{"Read of a block", func(n *node.Node, r node.Reader) api.Errno { _, e := n.Read(128, 128, r); return e }, []int{51}},
		{"Read of nothing", func(n *node.Node, r node.Reader) api.Errno { _, e := n.Read(128, 0, r); return e }, nil},
		{"Read behind", func(n *node.Node, r node.Reader) api.Errno { _, e := n.Read(384, 9, r); return e }, nil},
		{"Write of a block", func(n *node.Node, r node.Reader) api.Errno { return n.Write(128, make([]byte, 128), r) }, nil},
		{"Write over the edges", func(n *node.Node, r node.Reader) api.Errno { return n.Write(127, make([]byte, 130), r) }, []int{50, 52}},
		{"Write to a hole", func(n *node.Node, r node.Reader) api.Errno { return n.Write(500, make([]byte, 9), r) }, nil},
		{"Write of nothing", func(n *node.Node, r node.Reader) api.Errno { return n.Write(5, nil, r) }, nil},
		{"Truncate within", func(n *node.Node, r node.Reader) api.Errno { return n.Truncate(129, r) }, []int{51}},
		{"Truncate between", func(n *node.Node, r node.Reader) api.Errno { return n.Truncate(256, r) }, nil},
		{"Truncate to the same", func(n *node.Node, r node.Reader) api.Errno { return n.Truncate(384, r) }, nil},
		{"Truncate to more", func(n *node.Node, r node.Reader) api.Errno { return n.Truncate(500, r) }, nil},
		{"Truncate to a block more", func(n *node.Node, r node.Reader) api.Errno { return n.Truncate(512, r) }, nil},
		{"Truncate to none", func(n *node.Node, r node.Reader) api.Errno { return n.Truncate(0, r) }, nil},
		{"Move of a block", func(n *node.Node, r node.Reader) api.Errno { _, e := n.Move(entry(codec.Data, 1), 51, r); return e }, []int{51}},
		{"Move of the inode", func(n *node.Node, r node.Reader) api.Errno { _, e := n.Move(entry(codec.Node, 0), 53, r); return e }, nil},
		{"Move of what isn't there", func(n *node.Node, r node.Reader) api.Errno { _, e := n.Move(entry(codec.Data, 1), 50, r); return e }, nil},
	}
	for _, x := range tests {
		m := n.Clone()
		s.asked = nil
		if e := x.do(m, s.read); e != api.OK || !slices.Equal(s.asked, x.asks) {
			t.Errorf("P13.1: %s: %v, asked %v; want %v", x.what, e, s.asked, x.asks)
		}
		for _, bad := range x.asks {
			m := n.Clone()
			e := x.do(m, func(at int) (api.Sector, api.Errno) {
				if at == bad {
					return api.Sector{9}, api.ErrPipe
				}
				return s.read(at)
			})
			if e != api.ErrPipe || !same(m, n) {
				t.Errorf("P13.1: %s: with a bad sector %d: %v, %v", x.what, bad, e, shows(m))
			}
			reads(t, m, s, 100, 100, string(bytes.Repeat([]byte("abcd"), 25)))
		}
		m = n.Clone()
		if e := x.do(m, nil); x.asks == nil && e != api.OK || x.asks != nil && (e != api.ErrInval || !same(m, n)) {
			t.Errorf("P1: %s: without a Reader: %v", x.what, e)
		}
	}
}

// P1, P13.1: Write at all places; what is refused changes nothing, and no bytes change nothing.
func TestWriteEdges(t *testing.T) {
	for _, at := range ends {
		for _, size := range []int{0, 1, 128, 129, api.MaxSize, api.MaxSize + 1} {
			n := node.New(2, 1, api.File)
			s := newStore()
			put(t, n, s, 3, "abc")
			commit(t, n, s, 50)
			before := n.Clone()
			want := api.OK
			if at < 0 {
				want = api.ErrInval
			} else if at > api.MaxSize-size {
				want = api.ErrFbig
			}
			e := n.Write(at, make([]byte, size), s.read)
			if e != want || (e != api.OK || size == 0) && !same(n, before) {
				t.Errorf("P13.1: Write(%d, %d bytes) = %v; want %v; %v", at, size, e, want, shows(n))
			}
			if e == api.OK && size > 0 && n.Size() != max(6, at+size) {
				t.Errorf("P13.1: Write(%d, %d bytes): size %d", at, size, n.Size())
			}
		}
	}
}

// P13.1: all blocks of the greatest file, and what they cost.
func TestGreatest(t *testing.T) {
	s := newStore()
	n := node.New(2, 1, api.File)
	all := make([]byte, api.MaxSize)
	for i := range all {
		all[i] = byte(i / 128 * 7)
	}
	if e := n.Write(0, all, deaf(t)); e != api.OK || n.Size() != api.MaxSize || len(n.Indexes()) != api.MaxBlocks || n.Cost() != api.MaxBlocks+35 {
		t.Fatalf("P13.1: Write of all = %v, %d blocks, cost %d", e, len(n.Indexes()), n.Cost())
	}
	commit(t, n, s, 100)
	m := loads(t, s, 100+api.MaxBlocks+34)
	if b, e := m.Read(0, math.MaxInt, s.read); e != api.OK || !bytes.Equal(b, all) || !same(m, n) || len(m.Sectors()) != m.Cost() {
		t.Errorf("P13.2: of the greatest file %d bytes are read: %v", len(b), e)
	}
	if e := m.Truncate(0, deaf(t)); e != api.OK || len(m.Indexes()) != 0 || m.Cost() != 1 {
		t.Errorf("P13.1: Truncate = %v, %v", e, shows(m))
	}
	if _, dead, e := m.Commit(5); e != api.OK || !slices.Equal(dead, n.Sectors()) || !slices.Equal(m.Sectors(), []int{5}) {
		t.Errorf("P13.2: Commit = %d dead, %v", len(dead), e)
	}
}

// P1, P13.1: Truncate to all sizes.
func TestTruncateEdges(t *testing.T) {
	for _, size := range ends {
		s := newStore()
		n := node.New(2, 1, api.File)
		put(t, n, s, 0, string(bytes.Repeat([]byte("x"), 300)))
		commit(t, n, s, 50)
		before := n.Clone()
		want := api.OK
		if size < 0 {
			want = api.ErrInval
		} else if size > api.MaxSize {
			want = api.ErrFbig
		}
		if e := n.Truncate(size, s.read); e != want || e != api.OK && !same(n, before) || e == api.OK && n.Size() != size {
			t.Errorf("P13.1: Truncate(%d) = %v; want %v; %v", size, e, want, shows(n))
		}
	}
}

// P13.1: what was cut off is noughts when the file grows again, be it in memory or on the disk.
func TestTails(t *testing.T) {
	for _, onDisk := range []bool{false, true} {
		for _, grow := range []string{"Truncate", "Write"} {
			s := newStore()
			n := node.New(2, 1, api.File)
			put(t, n, s, 0, string(bytes.Repeat([]byte("x"), 300)))
			if onDisk {
				commit(t, n, s, 50)
			}
			if e := n.Truncate(130, s.read); e != api.OK || !slices.Equal(n.Indexes(), []int{0, 1}) {
				t.Fatalf("P13.1: Truncate = %v, %v", e, n.Indexes())
			}
			if grow == "Write" {
				put(t, n, s, 258, "yy")
			} else if e := n.Truncate(260, s.read); e != api.OK {
				t.Fatalf("P13.1: Truncate = %v", e)
			}
			want := "xx" + string(make([]byte, 128)) + "\x00\x00"
			if grow == "Write" {
				want = "xx" + string(make([]byte, 128)) + "yy"
			}
			reads(t, n, s, 128, 999, want)
		}
	}
}

// P13.1, P13.2: of blocks that were loaded with other bytes behind the Size, Truncate makes the tail noughts also if the Size gets greater, or stays; they count as written to just then.
func TestLoadedTails(t *testing.T) {
	for _, x := range []struct {
		size, tail int // the tail begins there on the disk
		want       []codec.Entry
	}{
		{5, 10, []codec.Entry{entry(codec.Data, 0), entry(codec.Node, 0)}},
		{10, 10, []codec.Entry{entry(codec.Data, 0), entry(codec.Node, 0)}},
		{10, 11, []codec.Entry{entry(codec.Data, 0), entry(codec.Node, 0)}},
		{20, 10, []codec.Entry{entry(codec.Data, 0), entry(codec.Node, 0)}},
		{20, 127, []codec.Entry{entry(codec.Data, 0), entry(codec.Node, 0)}},
		{20, 128, []codec.Entry{entry(codec.Node, 0)}},
		{10, 128, nil},
		{127, 127, []codec.Entry{entry(codec.Data, 0), entry(codec.Node, 0)}},
		{128, 10, []codec.Entry{entry(codec.Node, 0)}},
		{300, 10, []codec.Entry{entry(codec.Node, 0)}},
	} {
		s := newStore()
		var block api.Sector
		copy(block[:10], "abcdefghij")
		copy(block[x.tail:], bytes.Repeat([]byte("x"), 128))
		s.sectors[20] = block
		s.sectors[30] = inode(t, codec.Inode{Num: 2, Version: 1, Kind: api.File, Size: 10, Direct: [8]int{20}})
		n := loads(t, s, 30)
		before := n.Clone()
		broken := func(int) (api.Sector, api.Errno) { return api.Sector{}, api.ErrPipe }
		if e := n.Truncate(x.size, broken); x.size < 128 && (e != api.ErrPipe || !same(n, before)) {
			t.Errorf("P13.1: Truncate(%d) of what can't be read: %v, %v", x.size, e, shows(n))
		}
		n = loads(t, s, 30)
		if e := n.Truncate(x.size, s.read); e != api.OK {
			t.Errorf("P13.1: Truncate(%d) = %v", x.size, e)
		}
		pends(t, n, "Truncate of what was loaded", x.want...)
		if x.size >= 128 {
			continue
		}
		if e := n.Truncate(128, s.read); e != api.OK {
			t.Errorf("P13.1: Truncate(128) = %v", e)
		}
		clear(block[x.size:])
		reads(t, n, s, 0, 128, string(block[:]))
	}
}

// P13.1: of a block that lies over a greater Size, behind the one that it had, the tail is noughts, too; those behind it are holes.
func TestBehindTheSize(t *testing.T) {
	s := newStore()
	s.sectors[20] = api.Sector(bytes.Repeat([]byte("x"), 128))
	s.sectors[30] = inode(t, codec.Inode{Num: 2, Version: 1, Kind: api.File, Size: 10, Direct: [8]int{0, 20, 20}})
	n := loads(t, s, 30)
	if e := n.Truncate(200, s.read); e != api.OK || !slices.Equal(n.Indexes(), []int{1}) {
		t.Errorf("P13.1: Truncate(200) = %v, %v", e, n.Indexes())
	}
	n.Truncate(300, s.read)
	reads(t, n, s, 200, 100, string(make([]byte, 100)))
}

// P13.2: a block over which a lesser Size lies counts as written to, though all of its tail is noughts; over a greater one, or a hole, it doesn't.
func TestTruncateWrites(t *testing.T) {
	for size, want := range map[int][]codec.Entry{
		50:  {entry(codec.Data, 0), entry(codec.Node, 0)},
		99:  {entry(codec.Data, 0), entry(codec.Node, 0)},
		100: nil,
		101: {entry(codec.Node, 0)},
		128: {entry(codec.Node, 0)},
		200: {entry(codec.Node, 0)},
	} {
		s := newStore()
		n := node.New(2, 1, api.File)
		put(t, n, s, 0, "abc")
		n.Truncate(100, s.read)
		commit(t, n, s, 50)
		if e := n.Truncate(size, s.read); e != api.OK {
			t.Errorf("P13.1: Truncate(%d) = %v", size, e)
		}
		pends(t, n, "Truncate", want...)
	}
}

// P13.2: which changes make what pending.
func TestPending(t *testing.T) {
	d := func(i int) codec.Entry { return entry(codec.Data, i) }
	leaf := func(i int) codec.Entry { return entry(codec.Leaf, i) }
	inode, single, double := entry(codec.Node, 0), entry(codec.Single, 0), entry(codec.Double, 0)
	tests := []struct {
		what string
		do   func(n *node.Node, r node.Reader)
		want []codec.Entry
	}{
		{"nothing", func(n *node.Node, r node.Reader) {}, nil},
		{"a byte as it was", func(n *node.Node, r node.Reader) { n.Write(0, []byte("x"), r) }, []codec.Entry{d(0), inode}},
		{"no bytes", func(n *node.Node, r node.Reader) { n.Write(0, nil, r) }, nil},
		{"the same time", func(n *node.Node, r node.Reader) { n.SetTime(4) }, nil},
		{"another time", func(n *node.Node, r node.Reader) { n.SetTime(5) }, []codec.Entry{inode}},
		{"the same size", func(n *node.Node, r node.Reader) { n.Truncate(n.Size(), r) }, nil},
		{"more", func(n *node.Node, r node.Reader) { n.Truncate(n.Size()+1, r) }, []codec.Entry{inode}},
		{"one byte less", func(n *node.Node, r node.Reader) { n.Truncate(n.Size()-1, r) }, []codec.Entry{d(105), leaf(2), double, inode}},
		{"a block of a leaf less", func(n *node.Node, r node.Reader) { n.Truncate(105*128, r) }, []codec.Entry{leaf(2), double, inode}},
		{"a leaf less", func(n *node.Node, r node.Reader) { n.Truncate(104*128, r) }, []codec.Entry{double, inode}},
		{"all leaves less", func(n *node.Node, r node.Reader) { n.Truncate(40*128, r) }, []codec.Entry{inode}},
		{"a block of the single block less", func(n *node.Node, r node.Reader) { n.Truncate(10*128, r) }, []codec.Entry{single, inode}},
		{"the single block less", func(n *node.Node, r node.Reader) { n.Truncate(9*128, r) }, []codec.Entry{single, inode}},
		{"but the tail of a block", func(n *node.Node, r node.Reader) { n.Truncate(9*128-1, r) }, []codec.Entry{d(8), single, inode}},
		{"all blocks less", func(n *node.Node, r node.Reader) { n.Truncate(0, r) }, []codec.Entry{inode}},
		{"within a hole", func(n *node.Node, r node.Reader) { n.Truncate(5*128+1, r) }, []codec.Entry{inode}},
		{"all of them", func(n *node.Node, r node.Reader) { n.Write(0, make([]byte, 106*128), r) }, nil},
		{"two leaves, from behind", func(n *node.Node, r node.Reader) {
			n.Write(105*128, []byte("a"), r)
			n.Write(41*128, []byte("a"), r)
			n.Write(9*128, []byte("a"), r)
			n.Write(1*128, []byte("a"), r)
		}, []codec.Entry{d(1), d(9), d(41), d(105), leaf(0), leaf(2), single, double, inode}},
		{"a block that comes and goes", func(n *node.Node, r node.Reader) {
			n.Write(106*128, []byte("a"), r)
			n.Truncate(106*128, r)
		}, []codec.Entry{leaf(2), double, inode}},
	}
	for _, x := range tests {
		s := newStore()
		n := node.New(2, 1, api.File)
		for _, i := range []int{0, 8, 9, 10, 40, 41, 104, 105} {
			put(t, n, s, i*128, string(bytes.Repeat([]byte("x"), 128)))
		}
		n.SetTime(4)
		commit(t, n, s, 50)
		pends(t, n, "behind Commit")
		x.do(n, s.read)
		if x.what == "all of them" {
			if p := n.Pending(); len(p) != 106+3+1+1+1 || p[105] != d(105) || p[106] != leaf(0) || p[108] != leaf(2) || p[109] != single || p[110] != double || p[111] != inode {
				t.Errorf("P13.2: all of them: %v", p)
			}
			continue
		}
		pends(t, n, x.what, x.want...)
	}
}

// P13.2: what Commit refuses changes nothing.
func TestCommitErrors(t *testing.T) {
	n := node.New(2, 1, api.File)
	n.Write(0, []byte("a"), deaf(t))
	before := n.Clone()
	for _, at := range append(ends, 2, 65534, 65535, 65536) {
		for _, list := range [][]int{{at, 7}, {7, at}} {
			m := n.Clone()
			items, dead, e := m.Commit(list...)
			if at >= 1 && at <= 65535 {
				if e != api.OK || len(items) != 2 || len(dead) != 0 || len(m.Pending()) != 0 {
					t.Errorf("P13.2: Commit(%v) = %v, %v, %v", list, items, dead, e)
				}
			} else if e != api.ErrInval || items != nil || dead != nil || !same(m, before) {
				t.Errorf("P13.2: Commit(%v) = %v, %v, %v", list, items, dead, e)
			}
		}
	}
	for _, list := range [][]int{nil, {5}, {5, 6, 7}} {
		if items, dead, e := n.Commit(list...); e != api.ErrInval || items != nil || dead != nil || !same(n, before) {
			t.Errorf("P13.2: Commit(%v) = %v, %v, %v", list, items, dead, e)
		}
	}
	n.Commit(5, 6)
	if items, dead, e := n.Commit(); e != api.OK || len(items) != 0 || len(dead) != 0 || !slices.Equal(n.Sectors(), []int{5, 6}) {
		t.Errorf("P13.2: Commit of nothing = %v, %v, %v", items, dead, e)
	}
	if items, dead, e := n.Commit(7); e != api.ErrInval || items != nil || dead != nil {
		t.Errorf("P13.2: Commit of nothing = %v, %v, %v", items, dead, e)
	}
}

// P13.2: what is committed to sectors that it had isn't told as dead.
func TestCommitSame(t *testing.T) {
	s := newStore()
	n := node.New(2, 1, api.File)
	put(t, n, s, 0, "a")
	put(t, n, s, 128, "b")
	commit(t, n, s, 50) // 50, 51, the inode at 52
	put(t, n, s, 0, "c")
	if _, dead, e := n.Commit(52, 60); e != api.OK || !slices.Equal(dead, []int{50}) || !slices.Equal(n.Sectors(), []int{51, 52, 60}) {
		t.Errorf("P13.2: dead = %v, %v, sectors %v", dead, e, n.Sectors())
	}
}

// P13.4: Live, of each part, and of each that is a bit another one.
func TestLive(t *testing.T) {
	s := newStore()
	n := node.New(2, 1, api.Dir)
	for _, i := range []int{3, 9, 41, 75} {
		put(t, n, s, i*128, "a")
	}
	list := n.Pending()
	for _, e := range list {
		if n.Live(e, 0) {
			t.Errorf("P13.4: %v is pending, and is said to be live", e)
		}
	}
	commit(t, n, s, 50)
	for i, e := range list {
		if !n.Live(e, 50+i) || n.Live(e, 49+i) || n.Live(e, 51+i) || n.Live(e, 0) || n.Live(e, math.MaxInt) {
			t.Errorf("P13.4: Live of %v", e)
		}
		for _, other := range []codec.Entry{{Kind: e.Kind, Num: 3, Version: 1, Index: e.Index}, {Kind: e.Kind, Num: 2, Version: 0, Index: e.Index}, {Kind: e.Kind, Num: 2, Version: 1, Index: e.Index + 1}, {Kind: e.Kind, Num: 2, Version: 1, Index: -1}, {Kind: e.Kind + 1, Num: 2, Version: 1, Index: e.Index}, {Kind: e.Kind - 1, Num: 2, Version: 1, Index: e.Index}} {
			ok, fault := n.Move(other, 50+i, deaf(t))
			if n.Live(other, 50+i) || ok || fault != api.OK || len(n.Pending()) != 0 {
				t.Errorf("P13.4: Live of %v", other)
			}
		}
	}
	n.Truncate(75*128, s.read)
	if n.Live(entry(codec.Data, 75), 53) || n.Live(entry(codec.Leaf, 1), 55) || n.Live(entry(codec.Double, 0), 57) || n.Live(entry(codec.Node, 0), 58) || !n.Live(entry(codec.Data, 41), 52) || !n.Live(entry(codec.Leaf, 0), 54) || !n.Live(entry(codec.Single, 0), 56) {
		t.Errorf("P13.4: Live behind Truncate")
	}
}

// P13.4: Move, of each part: it and what it hangs on are pending, and bytes stay.
func TestMove(t *testing.T) {
	d := func(i int) codec.Entry { return entry(codec.Data, i) }
	leaf0, leaf1, single, double, inode := entry(codec.Leaf, 0), entry(codec.Leaf, 1), entry(codec.Single, 0), entry(codec.Double, 0), entry(codec.Node, 0)
	for i, want := range [][]codec.Entry{{d(3), inode}, {d(9), single, inode}, {d(41), leaf0, double, inode}, {d(75), leaf1, double, inode}, {leaf0, double, inode}, {leaf1, double, inode}, {single, inode}, {double, inode}, {inode}} {
		s := newStore()
		n := node.New(2, 1, api.File)
		for _, k := range []int{3, 9, 41, 75} {
			put(t, n, s, k*128, "abc")
		}
		commit(t, n, s, 50)
		e := want[0]
		if ok, fault := n.Move(e, 50+i, s.read); !ok || fault != api.OK || n.Live(e, 50+i) {
			t.Errorf("P13.4: Move(%v) = %v, %v", e, ok, fault)
		}
		pends(t, n, "Move", want...)
		if again, fault := n.Move(e, 50+i, deaf(t)); again || fault != api.OK {
			t.Errorf("P13.4: Move(%v) again = %v, %v", e, again, fault)
		}
		dead := commit(t, n, s, 100)
		if len(dead) != len(want) || len(n.Sectors()) != n.Cost() {
			t.Errorf("P13.4: Move(%v): dead %v", e, dead)
		}
		for _, at := range dead {
			s.sectors[at] = api.Sector{'z'}
		}
		m := loads(t, s, 100+len(want)-1)
		for _, k := range []int{3, 9, 41, 75} {
			reads(t, m, s, k*128, 3, "abc")
		}
	}
}

// P13.4: a clone goes its own way.
func TestClone(t *testing.T) {
	s := newStore()
	n := node.New(2, 1, api.File)
	put(t, n, s, 0, "abc")
	put(t, n, s, 41*128, "def")
	commit(t, n, s, 50)
	put(t, n, s, 128, "ghi")
	before := shows(n)
	m := n.Clone()
	if !same(m, n) {
		t.Errorf("P13.4: Clone = %v; want %v", shows(m), before)
	}
	put(t, m, s, 128, "xyz")
	put(t, m, s, 0, "x")
	m.SetTime(8)
	m.Truncate(200, s.read)
	commit(t, m, s, 100)
	if !reflect.DeepEqual(shows(n), before) {
		t.Errorf("P13.4: of the other one: %v; want %v", shows(n), before)
	}
	reads(t, n, s, 0, 3, "abc")
	reads(t, n, s, 128, 3, "ghi")
	reads(t, m, s, 128, 3, "xyz")
	was := shows(m)
	put(t, n, s, 0, "uvw")
	n.Truncate(3, s.read)
	if !reflect.DeepEqual(shows(m), was) {
		t.Errorf("P13.4: of the clone: %v; want %v", shows(m), was)
	}
}

// P1: no call changes what it is handed, nor keeps it; lists are new memory.
func TestMemory(t *testing.T) {
	s := newStore()
	n := node.New(2, 1, api.File)
	room := []byte("abcdef")
	b := room[:3]
	n.Write(126, b, s.read)
	n.Write(0, bytes.Repeat([]byte("-"), 126), s.read)
	if string(room) != "abcdef" {
		t.Errorf("Write changed %q", room)
	}
	clear(room)
	reads(t, n, s, 126, 3, "abc")
	got, _ := n.Read(126, 3, s.read)
	clear(got)
	reads(t, n, s, 126, 3, "abc")
	n.Pending()[0] = codec.Entry{}
	n.Indexes()[0] = 7
	at := []int{50, 51, 52, 9}
	items, _, e := n.Commit(at[:3]...)
	if e != api.OK || !slices.Equal(at, []int{50, 51, 52, 9}) {
		t.Errorf("Commit = %v; %v", e, at)
	}
	for i, x := range items {
		s.sectors[at[i]] = x.Data
	}
	clear(items)
	clear(at)
	n.Sectors()[0] = 9
	if !slices.Equal(n.Sectors(), []int{50, 51, 52}) || !slices.Equal(n.Indexes(), []int{0, 1}) || len(n.Pending()) != 0 {
		t.Errorf("%v", shows(n))
	}
	reads(t, n, s, 126, 3, "abc")
}
