package ptr_test

import (
	"math"
	"math/rand"
	"slices"
	"testing"

	"drumlin/api"
	"drumlin/ptr"
)

const blocks = 8 + 32 + 32*32

// ends are numbers at which a sum, a product or a difference may wrap round.
var ends = []int{math.MinInt, math.MinInt + 1, math.MinInt / 32, -1 << 59, -1 << 32, -136192, -129, -128, -33, -32, -8, -2, -1, 0, 1, 2, 3, 7, 8, 31, 32, 33, 39, 40, 127, 128, 129, 1023, 1063, 1064, 136191, 136192, 136193, 1<<32 + 1, 1 << 58, 1 << 59, 1<<63 - 1<<59, math.MaxInt - 136192, math.MaxInt - 127, math.MaxInt - 1, math.MaxInt}

// places are all there are, in the order of their indexes.
func places() []ptr.Place {
	var list []ptr.Place
	for slot := range 8 {
		list = append(list, ptr.Place{Slot: slot})
	}
	for slot := range 32 {
		list = append(list, ptr.Place{Level: 1, Slot: slot})
	}
	for leaf := range 32 {
		for slot := range 32 {
			list = append(list, ptr.Place{Level: 2, Leaf: leaf, Slot: slot})
		}
	}
	return list
}

// P7.1: the levels' numbers.
func TestLevels(t *testing.T) {
	if list := []int{ptr.InNode, ptr.InSingle, ptr.InLeaf}; !slices.Equal(list, []int{0, 1, 2}) {
		t.Errorf("P7.1: levels %v", list)
	}
}

// P7.1: Of and Index, each undoes the other.
func TestOfIndex(t *testing.T) {
	list := places()
	if len(list) != blocks {
		t.Fatalf("P7.1: %d places", len(list))
	}
	for i, p := range list {
		if got, e := ptr.Of(i); got != p || e != api.OK {
			t.Errorf("P7.1: Of(%d) = %v, %v; want %v", i, got, e, p)
		}
		if got, e := p.Index(); got != i || e != api.OK {
			t.Errorf("P7.1: Index of %v = %d, %v; want %d", p, got, e, i)
		}
	}
}

// P7.1: blocks that no file has.
func TestOfErrors(t *testing.T) {
	for _, i := range append([]int{-3, -1000, 1065, 1095, 1096, 2000}, ends...) {
		want := api.OK
		if i < 0 {
			want = api.ErrInval
		} else if i >= blocks {
			want = api.ErrFbig
		}
		if p, e := ptr.Of(i); e != want || e != api.OK && p != (ptr.Place{}) {
			t.Errorf("P7.1: Of(%d) = %v, %v; want %v", i, p, e, want)
		}
	}
}

// P7.1: just the places that there are have an index; also where a sum of theirs wraps round to one.
func TestIndexErrors(t *testing.T) {
	right := map[ptr.Place]bool{}
	for _, p := range places() {
		right[p] = true
	}
	check := func(p ptr.Place) {
		if i, e := p.Index(); !right[p] && (i != 0 || e != api.ErrInval) || right[p] && e != api.OK {
			t.Errorf("P7.1: Index of %v = %d, %v", p, i, e)
		}
	}
	for level := -3; level < 6; level++ {
		for leaf := -35; leaf < 70; leaf++ {
			for slot := -35; slot < 70; slot++ {
				check(ptr.Place{Level: level, Leaf: leaf, Slot: slot})
			}
		}
	}
	for _, x := range ends {
		for _, y := range ends {
			for level := -1; level < 4; level++ {
				check(ptr.Place{Level: level, Leaf: x, Slot: y})
				check(ptr.Place{Level: level, Leaf: x, Slot: -32*x + y})
			}
			check(ptr.Place{Level: x, Leaf: y})
			check(ptr.Place{Level: x, Slot: y})
		}
	}
}

// P7.2: a size divided by 128, rounded up.
func TestBlocks(t *testing.T) {
	for n := range 2000 {
		for size, want := range map[int]int{128 * n: n, 128*n + 1: n + 1, 128*n + 127: n + 1, -n: 0} {
			if got := ptr.Blocks(size); got != want {
				t.Errorf("P7.2: Blocks(%d) = %d; want %d", size, got, want)
			}
		}
	}
	for size, want := range map[int]int{math.MinInt: 0, math.MinInt + 1: 0, -1: 0, api.MaxSize: 1064, api.MaxSize + 1: 1065, math.MaxInt: 1 << 56, math.MaxInt - 126: 1 << 56, math.MaxInt - 127: 1<<56 - 1} {
		if got := ptr.Blocks(size); got != want {
			t.Errorf("P7.2: Blocks(%d) = %d; want %d", size, got, want)
		}
	}
}

// cut is Cut, byte by byte.
func cut(at, n int) []ptr.Piece {
	var list []ptr.Piece
	for i := at; i < at+n; i++ {
		if len(list) == 0 || i%128 == 0 {
			list = append(list, ptr.Piece{Index: i / 128, From: i % 128})
		}
		list[len(list)-1].To = i%128 + 1
	}
	return list
}

func cuts(t *testing.T, at, n int) {
	t.Helper()
	if list, e := ptr.Cut(at, n); e != api.OK || !slices.Equal(list, cut(at, n)) {
		t.Errorf("P7.2: Cut(%d, %d) = %v, %v; want %v", at, n, list, e, cut(at, n))
	}
}

// P7.2: bytes, block by block.
func TestCut(t *testing.T) {
	if list, e := ptr.Cut(100, 60); e != api.OK || !slices.Equal(list, []ptr.Piece{{0, 100, 128}, {1, 0, 32}}) {
		t.Errorf("P7.2: Cut(100, 60) = %v, %v", list, e)
	}
	for at := range 260 {
		for n := range 400 {
			cuts(t, at, n)
		}
	}
	for n := range 300 {
		cuts(t, api.MaxSize-n, n)
		cuts(t, api.MaxSize-n, n/2)
		cuts(t, api.MaxSize-n, 0)
		cuts(t, n, api.MaxSize-n)
	}
	random := rand.New(rand.NewSource(7))
	for range 300 {
		at := random.Intn(api.MaxSize + 1)
		cuts(t, at, random.Intn(api.MaxSize-at+1))
	}
}

// P7.2: what is below 0, or beyond the greatest size; the least error first; also where the sum has no room.
func TestCutErrors(t *testing.T) {
	for _, at := range ends {
		for _, n := range ends {
			want := api.OK
			if at < 0 || n < 0 {
				want = api.ErrInval
			} else if at > api.MaxSize || n > api.MaxSize || at+n > api.MaxSize {
				want = api.ErrFbig
			}
			if list, e := ptr.Cut(at, n); e != want || e != api.OK && list != nil {
				t.Errorf("P7.2: Cut(%d, %d) = %v, %v; want %v", at, n, list, e, want)
			}
		}
	}
	for n := 1; n < 300; n++ {
		for _, at := range []int{api.MaxSize - n + 1, api.MaxSize, api.MaxSize + n} {
			if list, e := ptr.Cut(at, n); e != api.ErrFbig || list != nil {
				t.Errorf("P7.2: Cut(%d, %d) = %v, %v", at, n, list, e)
			}
		}
		if list, e := ptr.Cut(api.MaxSize+n, 0); e != api.ErrFbig || list != nil {
			t.Errorf("P7.2: Cut(%d, 0) = %v, %v", api.MaxSize+n, list, e)
		}
	}
}

// cost is Cost, each block that is needed marked in a table.
func cost(indexes []int) int {
	var blocked [blocks]int
	var single, double int
	var leaves [32]int
	for _, i := range indexes {
		if i < 0 || i >= blocks {
			continue
		}
		blocked[i] = 1
		if i >= 40 {
			leaves[(i-40)/32], double = 1, 1
		} else if i >= 8 {
			single = 1
		}
	}
	sum := 1 + single + double
	for _, x := range blocked {
		sum += x
	}
	for _, x := range leaves {
		sum += x
	}
	return sum
}

func costs(t *testing.T, indexes ...int) {
	t.Helper()
	kept := slices.Clone(indexes)
	if got := ptr.Cost(indexes...); got != cost(kept) {
		t.Errorf("P7.3: Cost(%v) = %d; want %d", kept, got, cost(kept))
	}
	if !slices.Equal(indexes, kept) {
		t.Errorf("P7.3: Cost changed %v to %v", kept, indexes)
	}
}

// P7.3: what blocks cost, by hand.
func TestCost(t *testing.T) {
	for _, x := range []struct {
		want    int
		indexes []int
	}{
		{1, nil}, {1, []int{}}, {2, []int{0}}, {2, []int{7}}, {3, []int{8}}, {3, []int{39}}, {4, []int{40}}, {4, []int{1063}}, {1, []int{1064}}, {1, []int{-1}},
		{8, []int{0, 8, 40, 41}}, {8, []int{41, 40, 8, 0, 41, 40, 8, 0, -1, 1064}}, {4, []int{8, 9, 8}}, {6, []int{71, 72}}, {5, []int{71, 70}}, {9, []int{0, 1, 2, 3, 4, 5, 6, 7}},
	} {
		if got := ptr.Cost(x.indexes...); got != x.want {
			t.Errorf("P7.3: Cost(%v) = %d; want %d", x.indexes, got, x.want)
		}
	}
	var all []int
	for i := range blocks {
		costs(t, all...)
		costs(t, i)
		costs(t, i, i)
		all = append(all, i)
	}
	if got := ptr.Cost(all...); got != 1064+1+1+32+1 {
		t.Errorf("P7.3: Cost of all = %d", got)
	}
}

// P7.3: of any blocks, in any order, each once or often, and of some that no file has.
func TestCostAny(t *testing.T) {
	random := rand.New(rand.NewSource(8))
	for range 3000 {
		var list []int
		for range random.Intn(60) {
			switch random.Intn(8) {
			case 0:
				list = append(list, ends[random.Intn(len(ends))])
			case 1:
				list = append(list, random.Intn(50))
			default:
				list = append(list, random.Intn(1100)-20)
			}
		}
		costs(t, list...)
		costs(t, append(list, list...)...)
	}
	costs(t, ends...)
}

// P7.3: behind the blocks on the inode they hang on pointer blocks 32 by 32.
func TestShares(t *testing.T) {
	group := func(i int) int {
		if i < 8 || i >= blocks {
			return -1
		}
		return (i - 8) / 32
	}
	check := func(a, b int) {
		if want := group(a) >= 0 && group(a) == group(b); ptr.Shares(a, b) != want {
			t.Errorf("P7.3: Shares(%d, %d) = %v", a, b, !want)
		}
	}
	for a := -40; a < blocks+40; a++ {
		for b := -40; b < blocks+40; b++ {
			check(a, b)
		}
		for _, b := range ends {
			check(a, b)
			check(b, a)
		}
	}
	for _, a := range ends {
		for _, b := range ends {
			check(a, b)
		}
	}
}

// P1: no call panics, whatever it is given.
func TestNoPanic(t *testing.T) {
	for _, a := range ends {
		ptr.Of(a)
		ptr.Blocks(a)
		for _, b := range ends {
			ptr.Cut(a, b)
			ptr.Shares(a, b)
			ptr.Cost(a, b)
			for _, c := range ends {
				ptr.Place{Level: a, Leaf: b, Slot: c}.Index()
			}
		}
	}
}
