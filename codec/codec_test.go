package codec_test

import (
	"math"
	"math/rand"
	"reflect"
	"testing"

	"drumlin/api"
	"drumlin/codec"
	"drumlin/seal"
)

// number is one of a body, and of how many bytes.
type number struct {
	width int
	n     uint64
}

// thing is what stands on the disk: how it is written and read, and how the document lays it.
type thing[T any] struct {
	name  string
	kind  byte
	write func(x T) (api.Sector, api.Errno)
	read  func(s api.Sector) (T, api.Errno)
	laid  func(x T) []number
	some  func(r *rand.Rand) T
}

var inodes = thing[codec.Inode]{"Inode", 2, codec.WriteInode, codec.ReadInode, func(x codec.Inode) []number {
	list := []number{{2, uint64(x.Num)}, {4, uint64(x.Version)}, {1, uint64(x.Kind)}, {4, uint64(x.Size)}, {4, uint64(x.Time)}}
	for _, at := range x.Direct {
		list = append(list, number{4, uint64(at)})
	}
	return append(list, number{4, uint64(x.Single)}, number{4, uint64(x.Double)})
}, func(r *rand.Rand) codec.Inode {
	x := codec.Inode{Num: uint32(fit(r, 2)), Version: uint32(fit(r, 4)), Kind: 1 + r.Intn(2), Size: fit(r, 4), Time: uint32(fit(r, 4)), Single: fit(r, 4), Double: fit(r, 4)}
	for i := range x.Direct {
		x.Direct[i] = fit(r, 4)
	}
	return x
}}

var summaries = thing[codec.Summary]{"Summary", 3, codec.WriteSummary, codec.ReadSummary, func(x codec.Summary) []number {
	commit := uint64(0)
	if x.Commit {
		commit = 1
	}
	list := []number{{8, x.Seq}, {8, x.First}, {1, commit}, {1, uint64(len(x.Entries))}, {2, uint64(x.Next)}, {4, uint64(x.Time)}}
	for _, y := range x.Entries {
		list = append(list, number{1, uint64(y.Kind)}, number{2, uint64(y.Num)}, number{4, uint64(y.Version)}, number{2, uint64(y.Index)})
	}
	return list
}, func(r *rand.Rand) codec.Summary {
	x := codec.Summary{Seq: r.Uint64(), First: r.Uint64(), Commit: r.Intn(2) == 1, Next: fit(r, 2), Time: uint32(fit(r, 4))}
	for range r.Intn(9) {
		x.Entries = append(x.Entries, codec.Entry{Kind: 1 + r.Intn(6), Num: uint32(fit(r, 2)), Version: uint32(fit(r, 4)), Index: fit(r, 2)})
	}
	return x
}}

var slots = thing[[]codec.Slot]{"Slots", 4, func(x []codec.Slot) (api.Sector, api.Errno) { return codec.WriteSlots(x...) }, codec.ReadSlots, func(x []codec.Slot) []number {
	var list []number
	for _, y := range x {
		list = append(list, number{4, uint64(y.At)}, number{4, uint64(y.Version)}, number{2, uint64(y.Links)}, number{1, uint64(y.Kind)})
	}
	return list
}, func(r *rand.Rand) []codec.Slot {
	var x []codec.Slot
	for range r.Intn(11) {
		x = append(x, codec.Slot{At: fit(r, 4), Version: uint32(fit(r, 4)), Links: fit(r, 2), Kind: r.Intn(3)})
	}
	return x
}}

var uses = thing[[]codec.Use]{"Uses", 5, func(x []codec.Use) (api.Sector, api.Errno) { return codec.WriteUses(x...) }, codec.ReadUses, func(x []codec.Use) []number {
	var list []number
	for _, y := range x {
		list = append(list, number{2, uint64(y.Live)}, number{1, uint64(y.State)}, number{4, uint64(y.Age)})
	}
	return list
}, func(r *rand.Rand) []codec.Use {
	var x []codec.Use
	for range r.Intn(16) {
		x = append(x, codec.Use{Live: fit(r, 2), State: r.Intn(4), Age: uint32(fit(r, 4))})
	}
	return x
}}

var headers = thing[codec.Header]{"Header", 6, codec.WriteHeader, codec.ReadHeader, func(x codec.Header) []number {
	return []number{{8, x.Serial}, {8, x.Seq}, {2, uint64(x.Seg)}, {2, uint64(x.Group)}, {2, uint64(x.Next)}, {4, uint64(x.Time)}}
}, func(r *rand.Rand) codec.Header {
	return codec.Header{Serial: r.Uint64(), Seq: r.Uint64(), Seg: fit(r, 2), Group: fit(r, 2), Next: fit(r, 2), Time: uint32(fit(r, 4))}
}}

var records = thing[[]codec.Record]{"Records", 7, func(x []codec.Record) (api.Sector, api.Errno) { return codec.WriteRecords(x...) }, codec.ReadRecords, func(x []codec.Record) []number {
	var list []number
	for _, y := range x {
		list = append(list, number{2, uint64(y.Num)}, number{4, uint64(y.Version)}, number{2, uint64(y.Links)}, number{1, uint64(y.Kind)})
	}
	return list
}, func(r *rand.Rand) []codec.Record {
	var x []codec.Record
	for range r.Intn(14) {
		x = append(x, codec.Record{Num: uint32(fit(r, 2)), Version: uint32(fit(r, 4)), Links: fit(r, 2), Kind: r.Intn(3)})
	}
	return x
}}

// fit is a number that has room in so many bytes; often one at the edge.
func fit(r *rand.Rand, width int) int {
	most := 1<<(8*width) - 1
	switch r.Intn(4) {
	case 0:
		return 0
	case 1:
		return most
	}
	return r.Intn(most + 1)
}

// bytesOf are numbers one behind the other, the lowest byte first.
func bytesOf(list []number) []byte {
	var b []byte
	for _, x := range list {
		for i := range x.width {
			b = append(b, byte(x.n>>(8*i)))
		}
	}
	return b
}

func sealed(t *testing.T, kind byte, body []byte) api.Sector {
	t.Helper()
	s, e := seal.Make(kind, body)
	if e != api.OK {
		t.Fatalf("no sector of the kind %d and %d bytes: %v", kind, len(body), e)
	}
	return s
}

// holds is whether x is written as the document lays it, and read again.
func (k thing[T]) holds(t *testing.T, x T) {
	t.Helper()
	s, e := k.write(x)
	if e != api.OK || s != sealed(t, k.kind, bytesOf(k.laid(x))) {
		t.Errorf("P5.1: %s %+v: Write = % x, %v", k.name, x, s, e)
		return
	}
	back, e := k.read(s)
	if e != api.OK || !alike(back, x) {
		t.Errorf("P5.1: %s: Read = %+v, %v; want %+v", k.name, back, e, x)
	}
}

// refused is whether x isn't written.
func (k thing[T]) refused(t *testing.T, x T) {
	t.Helper()
	if s, e := k.write(x); s != (api.Sector{}) || e != api.ErrInval {
		t.Errorf("P5.3: %s %+v: Write = % x, %v", k.name, x, s, e)
	}
}

// formless is whether s isn't read.
func (k thing[T]) formless(t *testing.T, s api.Sector, what string) {
	t.Helper()
	var none T
	if x, e := k.read(s); e != api.ErrForm || !alike(x, none) {
		t.Errorf("P5.2: %s: %s: Read = %+v, %v", k.name, what, x, e)
	}
}

// alike: a list that is nil, and one that is empty, are the same.
func alike[T any](x, y T) bool {
	a, b := reflect.ValueOf(x), reflect.ValueOf(y)
	if a.Kind() == reflect.Slice && a.Len() == 0 {
		return b.Len() == 0
	}
	return reflect.DeepEqual(x, y)
}

// check does what holds for each thing.
func (k thing[T]) check(t *testing.T) {
	random := rand.New(rand.NewSource(5))
	for range 40 {
		x := k.some(random)
		k.holds(t, x)
		body := bytesOf(k.laid(x))
		k.others(t, body)
		k.lengths(t, body)
	}
	k.changed(t, random)
	k.noise(t, random)
	for _, s := range []api.Sector{{}, {0xd7, 0x4c, k.kind}, {0: 0xff, 127: 0xff}} {
		k.formless(t, s, "no sealed sector")
	}
}

// others: the body of another kind of sector is none.
func (k thing[T]) others(t *testing.T, body []byte) {
	for kind := 1; kind < 256; kind++ {
		if byte(kind) != k.kind {
			k.formless(t, sealed(t, byte(kind), body), "another kind")
		}
	}
}

// lengths: a body that is cut, or has more bytes, is none, but where a list ends there.
func (k thing[T]) lengths(t *testing.T, body []byte) {
	for size := 0; size <= api.BodySize; size++ {
		if size == len(body) {
			continue
		}
		b := make([]byte, size)
		copy(b, body)
		k.just(t, sealed(t, k.kind, b))
	}
}

// changed: of a sector each byte may be another one.
func (k thing[T]) changed(t *testing.T, random *rand.Rand) {
	for range 3 {
		right, _ := k.write(k.some(random))
		for i := range right {
			s := right
			s[i] ^= byte(1 + random.Intn(255))
			k.formless(t, s, "a byte is another one")
		}
	}
}

// noise: whatever a sealed sector has, it is read just if it is what Write makes.
func (k thing[T]) noise(t *testing.T, random *rand.Rand) {
	for range 3000 {
		body := bytesOf(k.laid(k.some(random)))
		for range 1 + random.Intn(3) {
			if len(body) > 0 {
				body[random.Intn(len(body))] = byte(random.Intn(9))
			}
		}
		k.just(t, sealed(t, k.kind, body))
	}
}

// just: what is read is what is written; or it is refused.
func (k thing[T]) just(t *testing.T, s api.Sector) {
	t.Helper()
	x, e := k.read(s)
	if e != api.OK {
		k.formless(t, s, "refused")
		return
	}
	if again, e := k.write(x); e != api.OK || again != s {
		t.Errorf("P5.2: %s: Read of % x = %+v, which Write makes % x, %v of", k.name, s, x, again, e)
	}
}

// P5.1, P5.2: each thing, in what holds for all.
func TestAll(t *testing.T) {
	inodes.check(t)
	summaries.check(t)
	slots.check(t)
	uses.check(t)
	headers.check(t)
	records.check(t)
}

// P5.1: the document's example.
func TestNone(t *testing.T) {
	want := sealed(t, 7, nil)
	if s, e := codec.WriteRecords(); s != want || e != api.OK {
		t.Errorf("P5.1: WriteRecords() = % x, %v", s, e)
	}
	if x, e := codec.ReadRecords(want); len(x) != 0 || e != api.OK {
		t.Errorf("P5.1: ReadRecords of none = %v, %v", x, e)
	}
	slots.holds(t, nil)
	uses.holds(t, nil)
	summaries.holds(t, codec.Summary{})
	headers.holds(t, codec.Header{})
}

// P5.1: the kinds have the numbers that the document gives them.
func TestKinds(t *testing.T) {
	got := [6]int{codec.Data, codec.Node, codec.Single, codec.Double, codec.Leaf, codec.Records}
	if got != [6]int{1, 2, 3, 4, 5, 6} {
		t.Errorf("P5.1: the kinds are %v", got)
	}
}

// field is a number of a thing: of how many bytes it is, and how it is set.
type field[T any] struct {
	width int
	set   func(x *T, n int)
}

// edges: a number has room up to the edge of its bytes, and isn't below 0.
func edges[T any](t *testing.T, k thing[T], base func() T, fields ...field[T]) {
	for i, f := range fields {
		most := 1<<(8*f.width) - 1
		for _, n := range []int{0, 1, 255, most - 1, most} {
			if n <= most {
				x := base()
				f.set(&x, n)
				k.holds(t, x)
			}
		}
		for _, n := range []int{most + 1, most + 2, 2*most + 2, -1, -most, math.MinInt, math.MinInt + 1, math.MaxInt, 1 << 32, 1<<32 + 1, 1 << 62} {
			x := base()
			f.set(&x, n)
			if s, e := k.write(x); s != (api.Sector{}) || e != api.ErrInval {
				t.Errorf("P5.3: %s: field %d of %+v: Write = % x, %v", k.name, i, x, s, e)
			}
		}
	}
}

// P5.1, P5.3: each number of an int at its edges.
func TestEdges(t *testing.T) {
	edges(t, inodes, func() codec.Inode { return codec.Inode{Kind: api.Dir} },
		field[codec.Inode]{4, func(x *codec.Inode, n int) { x.Size = n }},
		field[codec.Inode]{4, func(x *codec.Inode, n int) { x.Direct[0] = n }},
		field[codec.Inode]{4, func(x *codec.Inode, n int) { x.Direct[7] = n }},
		field[codec.Inode]{4, func(x *codec.Inode, n int) { x.Single = n }},
		field[codec.Inode]{4, func(x *codec.Inode, n int) { x.Double = n }})
	edges(t, summaries, func() codec.Summary {
		return codec.Summary{Entries: []codec.Entry{{Kind: codec.Leaf}, {Kind: codec.Data}}}
	},
		field[codec.Summary]{2, func(x *codec.Summary, n int) { x.Next = n }},
		field[codec.Summary]{2, func(x *codec.Summary, n int) { x.Entries[0].Index = n }},
		field[codec.Summary]{2, func(x *codec.Summary, n int) { x.Entries[1].Index = n }})
	edges(t, slots, func() []codec.Slot { return make([]codec.Slot, 10) },
		field[[]codec.Slot]{4, func(x *[]codec.Slot, n int) { (*x)[0].At = n }},
		field[[]codec.Slot]{4, func(x *[]codec.Slot, n int) { (*x)[9].At = n }},
		field[[]codec.Slot]{2, func(x *[]codec.Slot, n int) { (*x)[9].Links = n }})
	edges(t, uses, func() []codec.Use { return make([]codec.Use, 15) },
		field[[]codec.Use]{2, func(x *[]codec.Use, n int) { (*x)[0].Live = n }},
		field[[]codec.Use]{2, func(x *[]codec.Use, n int) { (*x)[14].Live = n }})
	edges(t, headers, func() codec.Header { return codec.Header{} },
		field[codec.Header]{2, func(x *codec.Header, n int) { x.Seg = n }},
		field[codec.Header]{2, func(x *codec.Header, n int) { x.Group = n }},
		field[codec.Header]{2, func(x *codec.Header, n int) { x.Next = n }})
	edges(t, records, func() []codec.Record { return make([]codec.Record, 13) },
		field[[]codec.Record]{2, func(x *[]codec.Record, n int) { (*x)[0].Links = n }},
		field[[]codec.Record]{2, func(x *[]codec.Record, n int) { (*x)[12].Links = n }})
}

// P5.1, P5.3: numbers of an inode are of two bytes, though they come as four.
func TestNums(t *testing.T) {
	for _, n := range []uint32{0, 1, 200, 65535} {
		inodes.holds(t, codec.Inode{Num: n, Kind: api.File})
		summaries.holds(t, codec.Summary{Entries: []codec.Entry{{Kind: codec.Data, Num: n}}})
		records.holds(t, []codec.Record{{Num: n}})
	}
	for _, n := range []uint32{65536, 65537, 1 << 31, math.MaxUint32} {
		inodes.refused(t, codec.Inode{Num: n, Kind: api.File})
		summaries.refused(t, codec.Summary{Entries: []codec.Entry{{Kind: codec.Data, Num: n}}})
		records.refused(t, []codec.Record{{Num: n}})
	}
	inodes.holds(t, codec.Inode{Kind: api.File, Version: math.MaxUint32, Time: math.MaxUint32})
	summaries.holds(t, codec.Summary{Seq: math.MaxUint64, First: math.MaxUint64 - 1, Time: math.MaxUint32})
	headers.holds(t, codec.Header{Serial: math.MaxUint64, Seq: math.MaxUint64 - 1, Time: math.MaxUint32})
}

// P5.3: which kinds and which states may be.
func TestBounds(t *testing.T) {
	for _, n := range []int{math.MinInt, -256, -1, 0, 1, 2, 3, 4, 5, 6, 7, 8, 255, 256, 257, 258, 1<<32 + 1, math.MaxInt} {
		each(t, inodes, n >= 1 && n <= 2, codec.Inode{Kind: n})
		each(t, slots, n >= 0 && n <= 2, []codec.Slot{{}, {Kind: n}})
		each(t, records, n >= 0 && n <= 2, []codec.Record{{Kind: n}, {}})
		each(t, uses, n >= 0 && n <= 3, []codec.Use{{}, {State: n}, {}})
		each(t, summaries, n >= 1 && n <= 6, codec.Summary{Entries: []codec.Entry{{Kind: 1}, {Kind: n}}})
	}
}

func each[T any](t *testing.T, k thing[T], may bool, x T) {
	t.Helper()
	if may {
		k.holds(t, x)
		return
	}
	k.refused(t, x)
}

// P5.2: which kinds and which states are read, of sectors that are sealed well.
func TestReadBounds(t *testing.T) {
	for n := range uint64(256) {
		reads(t, inodes, n >= 1 && n <= 2, number{6, 9}, number{1, n}, number{8, 0}, number{8, 0}, number{8, 0}, number{8, 0}, number{8, 0}, number{8, 0})
		reads(t, slots, n <= 2, number{8, 0}, number{2, 7}, number{1, n})
		reads(t, records, n <= 2, number{8, 0}, number{1, n})
		reads(t, uses, n <= 3, number{2, 7}, number{1, n}, number{4, 1})
		reads(t, summaries, n >= 1 && n <= 6, number{8, 1}, number{8, 1}, number{1, 1}, number{1, 1}, number{6, 0}, number{1, n}, number{8, 0})
		reads(t, summaries, n <= 1, number{8, 1}, number{8, 1}, number{1, n}, number{1, 0}, number{6, 0})
		reads(t, summaries, n == 2, number{8, 1}, number{8, 1}, number{1, 1}, number{1, n}, number{6, 0}, number{1, 4}, number{8, 0}, number{1, 6}, number{8, 0})
		reads(t, summaries, n == 0, number{8, 1}, number{8, 1}, number{1, 1}, number{1, n}, number{6, 0})
	}
}

func reads[T any](t *testing.T, k thing[T], may bool, list ...number) {
	t.Helper()
	s := sealed(t, k.kind, bytesOf(list))
	if !may {
		k.formless(t, s, "it may not be")
		return
	}
	if x, e := k.read(s); e != api.OK {
		t.Errorf("P5.2: %s: Read of %v = %+v, %v", k.name, list, x, e)
	}
}

// P5.3: how many items there may be; more aren't written, nor read, also where there is room for them.
func TestCounts(t *testing.T) {
	for n := range 30 {
		each(t, summaries, n <= 8, codec.Summary{Entries: kinds(n)})
		each(t, slots, n <= 10, make([]codec.Slot, n))
		each(t, uses, n <= 15, make([]codec.Use, n))
		each(t, records, n <= 13, make([]codec.Record, n))
	}
	summaries.formless(t, sealed(t, 3, bytesOf(summaries.laid(codec.Summary{Entries: kinds(9)}))), "9 entries")
	summaries.formless(t, sealed(t, 3, bytesOf(summaries.laid(codec.Summary{Entries: kinds(10)}))), "10 entries")
	uses.formless(t, sealed(t, 5, make([]byte, 16*7)), "16 uses")
	uses.formless(t, sealed(t, 5, make([]byte, 17*7)), "17 uses")
	slots.refused(t, make([]codec.Slot, 1<<16))
}

func kinds(n int) []codec.Entry {
	var list []codec.Entry
	for i := range n {
		list = append(list, codec.Entry{Kind: 1 + i%6})
	}
	return list
}

// P5.2: of a list whole items are read, and nothing else, up to as many as there may be.
func TestItems(t *testing.T) {
	for size := 0; size <= api.BodySize; size++ {
		items(t, slots, size, 11, 10)
		items(t, uses, size, 7, 15)
		items(t, records, size, 9, 13)
	}
}

func items[T any](t *testing.T, k thing[[]T], size, item, most int) {
	t.Helper()
	s := sealed(t, k.kind, make([]byte, size))
	if size%item != 0 || size/item > most {
		k.formless(t, s, "no whole items, or too many")
		return
	}
	if x, e := k.read(s); len(x) != size/item || e != api.OK {
		t.Errorf("P5.2: %s: Read of %d bytes = %v, %v", k.name, size, x, e)
	}
}

// P5.1: pointers stand as they are, without a seal.
func TestPointers(t *testing.T) {
	random := rand.New(rand.NewSource(6))
	for range 1000 {
		var list [32]int
		var numbers []number
		for i := range list {
			list[i] = fit(random, 2)
			numbers = append(numbers, number{4, uint64(list[i])})
		}
		s, e := codec.WritePointers(list)
		if e != api.OK || s != api.Sector(bytesOf(numbers)) {
			t.Fatalf("P5.1: WritePointers(%v) = % x, %v", list, s, e)
		}
		if back, e := codec.ReadPointers(s); back != list || e != api.OK {
			t.Fatalf("P5.1: ReadPointers = %v, %v; want %v", back, e, list)
		}
	}
	if s, e := codec.WritePointers([32]int{}); s != (api.Sector{}) || e != api.OK {
		t.Errorf("P5.1: WritePointers of noughts = % x, %v", s, e)
	}
	if list, e := codec.ReadPointers(api.Sector{}); list != [32]int{} || e != api.OK {
		t.Errorf("P5.1: ReadPointers of noughts = %v, %v", list, e)
	}
}

// P5.2, P5.3: no pointer is below 0, or above 65535, wherever it stands.
func TestPointerErrors(t *testing.T) {
	for i := range 32 {
		for _, n := range []int{-1, 65536, 65537, 1 << 24, math.MaxUint32, 1 << 32, 1<<32 + 1, math.MinInt, math.MaxInt} {
			list := [32]int{0: 5, 31: 9}
			list[i] = n
			if s, e := codec.WritePointers(list); s != (api.Sector{}) || e != api.ErrInval {
				t.Errorf("P5.3: WritePointers(%v) = % x, %v", list, s, e)
			}
		}
		for k := range 16 {
			s := api.Sector{0: 1, 127 - 3: 1}
			s[4*i+2+k/8] = 1 << (k % 8)
			if list, e := codec.ReadPointers(s); list != [32]int{} || e != api.ErrForm {
				t.Errorf("P5.2: ReadPointers(% x) = %v, %v", s, list, e)
			}
		}
	}
}

// P5.2: sealed sectors are read as pointers just if they are such.
func TestPointersAnySector(t *testing.T) {
	random := rand.New(rand.NewSource(7))
	for range 20000 {
		var s api.Sector
		may := true
		for i := range s {
			if i%4 < 2 || random.Intn(60) == 0 {
				s[i] = byte(random.Intn(3))
			}
			may = may && (i%4 < 2 || s[i] == 0)
		}
		list, e := codec.ReadPointers(s)
		if may != (e == api.OK) || !may && (e != api.ErrForm || list != [32]int{}) {
			t.Fatalf("P5.2: ReadPointers(% x) = %v, %v", s, list, e)
		}
		if again, e := codec.WritePointers(list); may && (again != s || e != api.OK) {
			t.Fatalf("P5.2: WritePointers(%v) = % x, %v; want % x", list, again, e, s)
		}
	}
}

// kept is whether a call leaves a list as it is, its spare room too.
func kept[T comparable](t *testing.T, what string, list []T, call func(list []T)) {
	t.Helper()
	list = append(list, list...)
	short := list[:len(list)/2]
	before := append([]T(nil), list...)
	call(short)
	for i := range list {
		if list[i] != before[i] {
			t.Errorf("P5.4: %s: item %d was %v, and is %v", what, i, before[i], list[i])
		}
	}
}

// P5.4: what is handed in stays as it is.
func TestKept(t *testing.T) {
	kept(t, "Slots", []codec.Slot{{At: 1}, {Kind: 2}, {Kind: 1, Links: 9}}, func(list []codec.Slot) { codec.WriteSlots(list...) })
	kept(t, "Slots", []codec.Slot{{At: 1}, {Kind: 3}}, func(list []codec.Slot) { codec.WriteSlots(list...) })
	kept(t, "Uses", []codec.Use{{Live: 1}, {State: 2}}, func(list []codec.Use) { codec.WriteUses(list...) })
	kept(t, "Uses", []codec.Use{{Live: -1}, {State: 2}}, func(list []codec.Use) { codec.WriteUses(list...) })
	kept(t, "Records", []codec.Record{{Num: 1}, {Kind: 2}}, func(list []codec.Record) { codec.WriteRecords(list...) })
	kept(t, "Records", []codec.Record{{Num: 1 << 16}, {Kind: 2}}, func(list []codec.Record) { codec.WriteRecords(list...) })
	kept(t, "Summary", kinds(4), func(list []codec.Entry) { codec.WriteSummary(codec.Summary{Entries: list}) })
	kept(t, "Summary", []codec.Entry{{Kind: 1, Index: -1}, {Kind: 6}}, func(list []codec.Entry) { codec.WriteSummary(codec.Summary{Entries: list}) })
}

// apart is whether two answers share no memory, the spare room neither.
func apart[T comparable](t *testing.T, what string, read func() []T) {
	t.Helper()
	var none T
	first, second := read(), read()
	before := append([]T(nil), second...)
	for i := range first {
		first[i] = none
	}
	first = append(first[:0], make([]T, cap(first))...)
	for i := range second {
		if second[i] != before[i] || second[i] == none {
			t.Errorf("P5.4: %s: item %d of another answer was %v, and is %v (of %d)", what, i, before[i], second[i], len(first))
		}
	}
}

// P5.4: answers are new memory.
func TestApart(t *testing.T) {
	s, _ := codec.WriteSlots(codec.Slot{At: 1}, codec.Slot{At: 2}, codec.Slot{At: 3})
	apart(t, "Slots", func() []codec.Slot { x, _ := codec.ReadSlots(s); return x })
	u, _ := codec.WriteUses(codec.Use{Live: 1}, codec.Use{State: 2}, codec.Use{Age: 3})
	apart(t, "Uses", func() []codec.Use { x, _ := codec.ReadUses(u); return x })
	r, _ := codec.WriteRecords(codec.Record{Num: 1}, codec.Record{Kind: 2})
	apart(t, "Records", func() []codec.Record { x, _ := codec.ReadRecords(r); return x })
	m, _ := codec.WriteSummary(codec.Summary{Entries: kinds(3)})
	apart(t, "Summary", func() []codec.Entry { x, _ := codec.ReadSummary(m); return x.Entries })
}

// P1: no call panics, whatever it is given.
func TestNoPanic(t *testing.T) {
	random := rand.New(rand.NewSource(8))
	ends := []int{math.MinInt, -1, 0, 1, 3, 65535, 65536, 1 << 32, math.MaxInt}
	end := func() int { return ends[random.Intn(len(ends))] }
	for range 3000 {
		var list [32]int
		for i := range list {
			list[i] = end()
		}
		codec.WritePointers(list)
		codec.WriteInode(codec.Inode{Kind: end(), Size: end(), Direct: [8]int(list[:8]), Single: end(), Double: end()})
		codec.WriteHeader(codec.Header{Seg: end(), Group: end(), Next: end()})
		n := random.Intn(20)
		codec.WriteSlots(make([]codec.Slot, n)...)
		codec.WriteSlots(codec.Slot{At: end(), Links: end(), Kind: end()}, codec.Slot{Kind: end()})
		codec.WriteUses(make([]codec.Use, n)...)
		codec.WriteUses(codec.Use{Live: end(), State: end()}, codec.Use{Live: end()})
		codec.WriteRecords(make([]codec.Record, n)...)
		codec.WriteRecords(codec.Record{Links: end(), Kind: end()}, codec.Record{Num: uint32(end())})
		codec.WriteSummary(codec.Summary{Next: end(), Entries: make([]codec.Entry, n)})
		codec.WriteSummary(codec.Summary{Next: end(), Entries: []codec.Entry{{Kind: end(), Index: end()}}})
		body := make([]byte, random.Intn(121))
		random.Read(body)
		s, _ := seal.Make(byte(1+random.Intn(8)), body)
		codec.ReadInode(s)
		codec.ReadSummary(s)
		codec.ReadSlots(s)
		codec.ReadUses(s)
		codec.ReadHeader(s)
		codec.ReadRecords(s)
		codec.ReadPointers(s)
	}
}
