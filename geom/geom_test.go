package geom_test

import (
	"math"
	"math/rand"
	"testing"

	"drumlin/api"
	"drumlin/geom"
	"drumlin/seal"
)

// example is the document's.
var example = geom.Geom{Segs: 20, Groups: 2, Inodes: 10}

// ends are numbers that stand for all: the edges of what may be, and those of int; 1<<61 times 8 is 0 in an int.
var ends = []int{math.MinInt, math.MinInt + 1, math.MinInt32, -9, -1, 0, 1, 2, 7, 8, 9, 10, 32, 33, 200, 201, 1 << 32, 1<<32 + 20, 1 << 60, 1 << 61, math.MaxInt - 1, math.MaxInt}

// counts are those of a geometry, each counted one by one.
type counts struct {
	capacity, chunks, tables, most, room, reserve int
}

// steps is how often size must be taken until n is used up.
func steps(n, size int) int {
	count := 0
	for ; n > 0; n -= size {
		count++
	}
	return count
}

func counted(g geom.Geom) counts {
	var c counts
	for range g.Groups {
		c.capacity += 8
	}
	c.chunks, c.tables = steps(g.Inodes, 10), steps(g.Segs, 15)
	x := steps(c.chunks, c.capacity)
	for 2*(c.most+1)+6+2*x <= g.Segs {
		c.most++
	}
	c.room, c.reserve = c.most*c.capacity, g.Segs-c.most
	return c
}

func all(g geom.Geom) counts {
	return counts{g.Cap(), g.Chunks(), g.Tables(), g.Most(), g.Room(), g.Reserve()}
}

// each calls do for each geometry whose numbers may be, by themselves, or lie just outside.
func each(do func(g geom.Geom, bounded bool)) {
	for segs := 5; segs <= 203; segs++ {
		for groups := -1; groups <= 34; groups++ {
			for inodes := 0; inodes <= 202; inodes++ {
				do(geom.Geom{Segs: segs, Groups: groups, Inodes: inodes}, segs >= 8 && segs <= 200 && groups >= 1 && groups <= 32 && inodes >= 2 && inodes <= 200)
			}
		}
	}
}

// some are geometries that may be: the least and the greatest ones, and others.
func some() []geom.Geom {
	list := []geom.Geom{example, {Segs: 10, Groups: 1, Inodes: 2}, {Segs: 11, Groups: 1, Inodes: 80}, {Segs: 12, Groups: 1, Inodes: 81}, {Segs: 200, Groups: 32, Inodes: 200}, {Segs: 15, Groups: 3, Inodes: 20}, {Segs: 16, Groups: 3, Inodes: 21}, {Segs: 200, Groups: 1, Inodes: 200}, {Segs: 10, Groups: 32, Inodes: 200}}
	random := rand.New(rand.NewSource(4))
	for len(list) < 40 {
		g := geom.Geom{Segs: 8 + random.Intn(40), Groups: 1 + random.Intn(6), Inodes: 2 + random.Intn(199)}
		if g.Check() == api.OK {
			list = append(list, g)
		}
	}
	return list
}

// P4.1: the document's example.
func TestExample(t *testing.T) {
	if got, want := all(example), (counts{16, 1, 2, 6, 96, 14}); got != want || example.Check() != api.OK {
		t.Errorf("P4.1: %+v, %v; want %+v", got, example.Check(), want)
	}
	if example.Region(1) != 5 || example.Summary(0, 0) != 9 || example.Block(0, 1, 0) != 19 || example.Sectors() != 369 {
		t.Errorf("P4.2: %d, %d, %d, %d", example.Region(1), example.Summary(0, 0), example.Block(0, 1, 0), example.Sectors())
	}
}

// P4.1: of all geometries just those may be whose numbers may, and whose Room is at least 8; the counts are as they are counted.
func TestCheck(t *testing.T) {
	may := 0
	each(func(g geom.Geom, bounded bool) {
		want := api.ErrInval
		if bounded && counted(g).room >= 8 {
			want = api.OK
			may++
			if got, c := all(g), counted(g); got != c {
				t.Fatalf("P4.1: %v: %+v; want %+v", g, got, c)
			}
		}
		if got := g.Check(); got != want {
			t.Fatalf("P4.1: %v: Check = %v; want %v", g, got, want)
		}
	})
	if may == 0 {
		t.Errorf("P4.1: none may be")
	}
}

// P4.1: the edges, number by number.
func TestCheckEdges(t *testing.T) {
	right := []geom.Geom{{10, 1, 2}, {200, 1, 2}, {20, 1, 2}, {20, 32, 2}, {20, 2, 2}, {20, 2, 200}, {200, 32, 200}, {10, 1, 80}, {12, 1, 81}, {10, 2, 160}, {12, 2, 161}, {14, 1, 200}}
	wrong := []geom.Geom{{}, {8, 32, 200}, {9, 32, 2}, {8, 1, 2}, {9, 1, 2}, {7, 2, 10}, {201, 2, 10}, {20, 0, 10}, {20, 33, 10}, {20, 2, 1}, {20, 2, 0}, {20, 2, 201}, {10, 1, 81}, {11, 1, 81}, {10, 2, 161}, {13, 1, 200}, {9, 1, 100}, {-20, 2, 10}, {20, -2, 10}, {20, 2, -10}, {-20, -2, 10}, {-20, -2, -10}}
	for _, g := range right {
		if e := g.Check(); e != api.OK {
			t.Errorf("P4.1: %v: Check = %v", g, e)
		}
	}
	for _, g := range wrong {
		if e := g.Check(); e != api.ErrInval {
			t.Errorf("P4.1: %v: Check = %v", g, e)
		}
	}
	for i, n := range ends {
		fields := [3]int{20, 2, 10}
		bounds := [3][2]int{{8, 200}, {1, 32}, {2, 200}}
		for k := range 3 {
			x := fields
			x[k] = n
			if e := (geom.Geom{Segs: x[0], Groups: x[1], Inodes: x[2]}).Check(); (n < bounds[k][0] || n > bounds[k][1]) && e != api.ErrInval {
				t.Errorf("P4.1: end %d: %v: Check = %v", i, x, e)
			}
		}
	}
}

// P4.2: sector behind sector, each is just one thing, all of them are used, and Where tells which ones are blocks.
func TestPlaces(t *testing.T) {
	for _, g := range some() {
		at := 1
		c := counted(g)
		for i := range 2 {
			if got := g.Region(i); got != at {
				t.Fatalf("P4.2: %v: Region(%d) = %d; want %d", g, i, got, at)
			}
			at += 1 + c.chunks + c.tables
		}
		for i := range at {
			noBlock(t, g, i)
		}
		for seg := range g.Segs {
			for group := range g.Groups {
				if got := g.Summary(seg, group); got != at {
					t.Fatalf("P4.2: %v: Summary(%d, %d) = %d; want %d", g, seg, group, got, at)
				}
				noBlock(t, g, at)
				at++
				for slot := range 8 {
					block(t, g, seg, group, slot, at)
					at++
				}
			}
		}
		if got := g.Sectors(); got != at || at > api.MaxSectors {
			t.Errorf("P4.2: %v: Sectors = %d; want %d", g, got, at)
		}
		for _, beyond := range append(ends, at, at+1, at+2, at+9) {
			if beyond < 0 || beyond >= at {
				noBlock(t, g, beyond)
			}
		}
	}
}

func block(t *testing.T, g geom.Geom, seg, group, slot, at int) {
	t.Helper()
	if got := g.Block(seg, group, slot); got != at {
		t.Fatalf("P4.2: %v: Block(%d, %d, %d) = %d; want %d", g, seg, group, slot, got, at)
	}
	if s, k, i, ok := g.Where(at); s != seg || k != group || i != slot || !ok {
		t.Fatalf("P4.2: %v: Where(%d) = %d, %d, %d, %v; want %d, %d, %d", g, at, s, k, i, ok, seg, group, slot)
	}
}

func noBlock(t *testing.T, g geom.Geom, at int) {
	t.Helper()
	if s, k, i, ok := g.Where(at); s != 0 || k != 0 || i != 0 || ok {
		t.Fatalf("P4.2: %v: Where(%d) = %d, %d, %d, %v", g, at, s, k, i, ok)
	}
}

// P4.2: a region, a summary or a block that there isn't is at -1.
func TestNoPlaces(t *testing.T) {
	for _, g := range some() {
		for _, n := range append(ends, 3, g.Segs, g.Segs-1, g.Groups, g.Groups-1) {
			if got := g.Region(n); n != 0 && n != 1 && got != -1 {
				t.Errorf("P4.2: %v: Region(%d) = %d", g, n, got)
			}
			for _, other := range append(ends, g.Segs, g.Segs-1, g.Groups, g.Groups-1) {
				isSummary := n >= 0 && n < g.Segs && other >= 0 && other < g.Groups
				if got := g.Summary(n, other); isSummary != (got >= 0) || !isSummary && got != -1 {
					t.Errorf("P4.2: %v: Summary(%d, %d) = %d", g, n, other, got)
				}
				for _, slot := range ends {
					isBlock := isSummary && slot >= 0 && slot < 8
					if got := g.Block(n, other, slot); isBlock != (got >= 0) || !isBlock && got != -1 {
						t.Errorf("P4.2: %v: Block(%d, %d, %d) = %d", g, n, other, slot, got)
					}
				}
			}
		}
	}
}

// super is a superblock, laid byte by byte.
func super(g geom.Geom) api.Sector {
	s, _ := seal.Make(1, []byte{byte(g.Segs), 0, 0, 0, byte(g.Groups), 0, 0, 0, byte(g.Inodes), 0, 0, 0})
	return s
}

// P4.3: of each geometry that may be the superblock is laid as the document has it, and read again; of each other one none is read.
func TestSuper(t *testing.T) {
	var list []geom.Geom
	each(func(g geom.Geom, bounded bool) {
		if (g.Segs+g.Groups*3+g.Inodes*5)%61 == 0 || g.Segs < 15 && g.Groups == 1 && g.Inodes%10 < 2 {
			list = append(list, g)
		}
	})
	for _, g := range append(list, some()...) {
		s := g.Super()
		if g.Check() != api.OK {
			refused(t, s, "of one that may not be")
			if g.Groups >= 0 {
				refused(t, super(g), "laid of one that may not be")
			}
			continue
		}
		if s != super(g) {
			t.Fatalf("P4.3: %v: Super = % x", g, s)
		}
		if back, e := geom.Read(s); back != g || e != api.OK {
			t.Fatalf("P4.3: %v: Read = %v, %v", g, back, e)
		}
	}
}

func refused(t *testing.T, s api.Sector, what string) {
	t.Helper()
	if g, e := geom.Read(s); g != (geom.Geom{}) || e != api.ErrForm {
		t.Errorf("P4.3: %s: Read = %v, %v", what, g, e)
	}
}

// P4.3: a sector that isn't just a superblock is none: of another kind, shorter, longer, with a greater number, or with a byte that is another one.
func TestReadErrors(t *testing.T) {
	_, body, _ := seal.Open(example.Super())
	sealed := func(kind byte, body ...byte) api.Sector {
		s, e := seal.Make(kind, body)
		if e != api.OK {
			t.Fatalf("P4.3: Make: %v", e)
		}
		return s
	}
	if back, e := geom.Read(sealed(1, body...)); back != example || e != api.OK {
		t.Fatalf("P4.3: Read = %v, %v", back, e)
	}
	for kind := 2; kind < 256; kind++ {
		refused(t, sealed(byte(kind), body...), "another kind")
	}
	for size := range body {
		refused(t, sealed(1, body[:size]...), "a shorter body")
	}
	for size := 13; size <= api.BodySize; size++ {
		refused(t, sealed(1, append(append([]byte{}, body...), make([]byte, size-12)...)...), "a longer body")
	}
	for at := range body {
		if at%4 == 0 {
			continue
		}
		other := append([]byte{}, body...)
		other[at] = 1
		refused(t, sealed(1, other...), "a greater number")
		other[at] = 255
		refused(t, sealed(1, other...), "a far greater number")
	}
	for at := range api.SectorSize {
		for _, by := range []byte{1, 16, 128, 255} {
			s := example.Super()
			s[at] ^= by
			refused(t, s, "a byte is another one")
		}
	}
	refused(t, api.Sector{}, "noughts")
	var s api.Sector
	copy(s[:], body)
	refused(t, s, "not sealed")
}

// P4.3: sectors of anything are answered; of those whose seal is right just those that are made again the same.
func TestAnySector(t *testing.T) {
	random := rand.New(rand.NewSource(5))
	for range 20000 {
		var s api.Sector
		random.Read(s[:])
		refused(t, s, "anything")
		body := make([]byte, 11+random.Intn(3))
		for _, at := range []int{0, 4, 8} {
			body[at] = byte(random.Intn(256))
		}
		s, _ = seal.Make(byte(1+random.Intn(2)), body)
		g, e := geom.Read(s)
		if e == api.OK && (g.Check() != api.OK || g.Super() != s) || e != api.OK && (g != geom.Geom{} || e != api.ErrForm) {
			t.Errorf("P4.3: Read of % x = %v, %v", body, g, e)
		}
	}
}

// P1: each call ends, whatever it is given, and none panics, also of a geometry that may not be.
func TestNoPanic(t *testing.T) {
	for _, segs := range ends {
		for _, groups := range ends {
			for _, inodes := range ends {
				g := geom.Geom{Segs: segs, Groups: groups, Inodes: inodes}
				all(g)
				g.Check()
				geom.Read(g.Super())
				for _, n := range append(ends, g.Sectors(), g.Sectors()-1, g.Summary(0, 0), g.Summary(0, 0)+1) {
					g.Region(n)
					g.Summary(n, groups-1)
					g.Summary(segs-1, n)
					g.Block(segs-1, n, 0)
					g.Block(0, 0, n)
					g.Where(n)
				}
			}
		}
	}
}
