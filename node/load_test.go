package node_test

import (
	"math"
	"math/rand"
	"slices"
	"testing"

	"drumlin/api"
	"drumlin/codec"
	"drumlin/node"
)

func inode(t *testing.T, x codec.Inode) api.Sector {
	t.Helper()
	s, e := codec.WriteInode(x)
	if e != api.OK {
		t.Fatalf("no inode %+v: %v", x, e)
	}
	return s
}

func pointers(t *testing.T, list [32]int) api.Sector {
	t.Helper()
	s, e := codec.WritePointers(list)
	if e != api.OK {
		t.Fatalf("no pointers %v: %v", list, e)
	}
	return s
}

func loadFails(t *testing.T, s api.Sector, read node.Reader, want api.Errno, what string) {
	t.Helper()
	if n, e := node.Load(s, 70, read); n != nil || e != want {
		t.Errorf("P13.2: %s: Load = %v, %v; want %v", what, n, e, want)
	}
}

// P13.2: what stands in an inode and its pointer blocks is what is loaded.
func TestLoad(t *testing.T) {
	s := newStore()
	s.sectors[20] = pointers(t, [32]int{0: 30, 31: 31})
	s.sectors[21] = pointers(t, [32]int{2: 23, 31: 22})
	s.sectors[23] = pointers(t, [32]int{5: 65535})
	s.sectors[22] = pointers(t, [32]int{31: 33})
	x := codec.Inode{Num: 9, Version: 77, Kind: api.Dir, Size: api.MaxSize, Time: 5, Direct: [8]int{1: 11, 7: 17}, Single: 20, Double: 21}
	n, e := node.Load(inode(t, x), 70, s.read)
	if e != api.OK || n.Num() != 9 || n.Version() != 77 || n.Kind() != api.Dir || n.Size() != api.MaxSize || n.Time() != 5 {
		t.Fatalf("P13.2: Load = %v", e)
	}
	if got := n.Indexes(); !slices.Equal(got, []int{1, 7, 8, 39, 40 + 64 + 5, 1063}) || n.Cost() != 11 {
		t.Errorf("P13.2: Indexes = %v, Cost %d", got, n.Cost())
	}
	if got := n.Sectors(); !slices.Equal(got, []int{11, 17, 20, 21, 22, 23, 30, 31, 33, 70, 65535}) {
		t.Errorf("P13.2: Sectors = %v", got)
	}
	if !slices.Equal(s.asked, []int{20, 21, 23, 22}) {
		t.Errorf("P13.2: asked %v: the leaves come in their order", s.asked)
	}
	pends(t, n, "Load")
	for _, live := range []struct{ kind, index, at int }{{codec.Data, 1, 11}, {codec.Data, 39, 31}, {codec.Data, 109, 65535}, {codec.Leaf, 2, 23}, {codec.Leaf, 31, 22}, {codec.Single, 0, 20}, {codec.Double, 0, 21}, {codec.Node, 0, 70}} {
		if !n.Live(codec.Entry{Kind: live.kind, Num: 9, Version: 77, Index: live.index}, live.at) {
			t.Errorf("P13.4: %+v isn't live", live)
		}
	}
}

// P13.2: an inode alone asks for nothing, and its blocks may lie anywhere.
func TestLoadInode(t *testing.T) {
	x := codec.Inode{Num: 9, Version: 77, Kind: api.File, Size: 1000}
	n, e := node.Load(inode(t, x), 70, nil)
	if e != api.OK || len(n.Indexes()) != 0 || !slices.Equal(n.Sectors(), []int{70}) || n.Size() != 1000 {
		t.Errorf("P13.2: Load = %v", e)
	}
	for _, at := range ends {
		if n, e := node.Load(inode(t, x), at, nil); e != api.OK || !slices.Equal(n.Sectors(), []int{at}) || len(n.Pending()) != 0 {
			t.Errorf("P13.2: Load at %d = %v", at, e)
		}
	}
	x.Direct = [8]int{math.MaxUint32, 1, 65536}
	if n, e := node.Load(inode(t, x), 70, nil); e != api.OK || !slices.Equal(n.Indexes(), []int{0, 1, 2}) || !slices.Equal(n.Sectors(), []int{1, 70, 65536, math.MaxUint32}) {
		t.Errorf("P13.2: Load = %v", e)
	}
}

// P13.2: the first thing that is wrong is told, in the document's order.
func TestLoadErrors(t *testing.T) {
	bad := api.Sector{3: 1} // of pointers the first one is too great
	good := codec.Inode{Num: 9, Version: 77, Kind: api.File, Size: api.MaxSize, Single: 20, Double: 21}
	fresh := func() *store {
		s := newStore()
		s.sectors[20] = pointers(t, [32]int{})
		s.sectors[21] = pointers(t, [32]int{3: 24, 8: 22, 9: 23})
		for at := 22; at <= 24; at++ {
			s.sectors[at] = pointers(t, [32]int{1: 60 + at})
		}
		return s
	}
	if _, e := node.Load(inode(t, good), 70, fresh().read); e != api.OK {
		t.Fatalf("P13.2: Load = %v", e)
	}
	for _, size := range []int{api.MaxSize + 1, 1 << 31, math.MaxUint32} {
		x := good
		x.Size = size
		loadFails(t, inode(t, x), newStore().read, api.ErrForm, "Size")
	}
	turns := []int{20, 21, 24, 22, 23}
	for first, at := range turns {
		for _, lost := range []bool{false, true} {
			s := fresh()
			want := api.ErrForm
			for k, other := range turns[first:] {
				if k == 0 == lost { // those behind are wrong in the other way
					delete(s.sectors, other)
				} else {
					s.sectors[other] = bad
				}
			}
			if lost {
				want = api.ErrIo
			}
			loadFails(t, inode(t, good), s.read, want, "pointer blocks")
			if s.asked[len(s.asked)-1] != at {
				t.Errorf("P13.2: asked %v, where %d is wrong", s.asked, at)
			}
		}
	}
	loadFails(t, inode(t, good), nil, api.ErrInval, "no Reader")
	r := rand.New(rand.NewSource(1))
	other, _ := codec.WriteRecords()
	for _, s := range []api.Sector{{}, other, bad} {
		loadFails(t, s, fresh().read, api.ErrForm, "no inode")
	}
	for range 200 {
		s := inode(t, good)
		s[r.Intn(128)] ^= byte(1 + r.Intn(255))
		loadFails(t, s, fresh().read, api.ErrForm, "a byte is another one")
	}
}

// P1, P13.2: of what no Commit makes: pointer blocks on which nothing hangs, sectors that come twice, blocks behind the Size. Nothing is forgotten, or told twice.
func TestLoadOdd(t *testing.T) {
	s := newStore()
	s.sectors[20] = pointers(t, [32]int{})
	s.sectors[21] = pointers(t, [32]int{3: 24, 4: 25})
	s.sectors[24] = pointers(t, [32]int{})
	s.sectors[25] = pointers(t, [32]int{})
	x := codec.Inode{Num: 2, Version: 1, Kind: api.File, Size: 100, Direct: [8]int{11, 11, 12}, Single: 20, Double: 21}
	s.sectors[70] = inode(t, x)
	n := loads(t, s, 70)
	pends(t, n, "Load")
	if !slices.Equal(n.Indexes(), []int{0, 1, 2}) || !slices.Equal(n.Sectors(), []int{11, 12, 20, 21, 24, 25, 70}) {
		t.Errorf("P13.2: %v", shows(n))
	}
	n.SetTime(9)
	if dead := commit(t, n, s, 80); !slices.Equal(dead, []int{70}) || !same(loads(t, s, 80), n) {
		t.Errorf("P13.2: dead %v, %v", dead, shows(n))
	}
	for _, e := range []codec.Entry{entry(codec.Leaf, 4), entry(codec.Single, 0)} {
		at := map[int]int{codec.Leaf: 25, codec.Single: 20}[e.Kind]
		if ok, fault := n.Move(e, at, deaf(t)); !ok || fault != api.OK || n.Live(e, at) {
			t.Errorf("P13.4: Move(%v) = %v, %v", e, ok, fault)
		}
	}
	pends(t, n, "Move of what has no block", entry(codec.Double, 0), entry(codec.Node, 0))
	if dead := commit(t, n, s, 90); !slices.Equal(dead, []int{20, 21, 25, 80}) || !same(loads(t, s, 91), n) {
		t.Errorf("P13.2: dead %v, %v", dead, shows(n))
	}
	s.sectors[11] = api.Sector{99: 'x'}
	n.Truncate(100, s.read)
	pends(t, n, "blocks behind the Size", entry(codec.Node, 0))
	if dead := commit(t, n, s, 95); !slices.Equal(dead, []int{12, 91}) || !same(loads(t, s, 95), n) || !slices.Equal(n.Sectors(), []int{11, 24, 90, 95}) {
		t.Errorf("P13.2: dead %v, %v", dead, shows(n))
	}
}

// P1, P13.2: of any sectors: what can be loaded is committed elsewhere and loaded again.
func TestLoadAny(t *testing.T) {
	r := rand.New(rand.NewSource(2))
	for range 300 {
		s := newStore()
		for at := 1; at < 40; at++ {
			var list [32]int
			for range r.Intn(4) {
				list[r.Intn(32)] = r.Intn(60)
			}
			s.sectors[at] = pointers(t, list)
			if r.Intn(30) == 0 {
				s.sectors[at] = api.Sector{3: 1} // none of pointers
			}
		}
		x := codec.Inode{Num: 2, Version: 1, Kind: 1 + r.Intn(2), Size: r.Intn(api.MaxSize + 1), Single: r.Intn(50), Double: r.Intn(50)}
		for i := range x.Direct {
			x.Direct[i] = r.Intn(50) * r.Intn(2)
		}
		n, e := node.Load(inode(t, x), 70, s.read)
		if e != api.OK {
			if n != nil || e != api.ErrIo && e != api.ErrForm {
				t.Errorf("P13.2: Load = %v, %v", n, e)
			}
			continue
		}
		old := n.Sectors()
		for _, at := range old {
			for kind := codec.Data; kind <= codec.Leaf; kind++ {
				for index := range 1064 {
					n.Move(entry(kind, index), at, func(int) (api.Sector, api.Errno) { return api.Sector{}, api.OK })
				}
			}
		}
		dead := commit(t, n, s, 1000)
		m := loads(t, s, 999+len(s.sectors)-39)
		if !same(m, n) || len(n.Sectors()) != n.Cost() || !slices.Equal(dead, old) {
			t.Errorf("P13.2: %v; want %v; dead %v", shows(m), shows(n), dead)
		}
	}
}
