package usage_test

import (
	"math"
	"math/big"
	"math/rand"
	"slices"
	"testing"

	"drumlin/api"
	"drumlin/codec"
	"drumlin/usage"
)

// ends are numbers at which a sum or a difference may wrap round.
var ends = []int{math.MinInt, math.MinInt + 1, math.MinInt + 4096, -1 << 32, -4097, -4096, -201, -17, -16, -2, -1, 0, 1, 2, 3, 4, 15, 16, 17, 199, 200, 201, 255, 256, 4095, 4096, 4097, 1<<32 + 1, math.MaxInt - 4096, math.MaxInt - 16, math.MaxInt - 1, math.MaxInt}

// model is a table as the document tells it: of each segment what it is filled with.
type model struct {
	room int
	uses []codec.Use
}

// nearest: n, brought among 1 and most.
func nearest(n, most int) int {
	if n < 1 {
		return 1
	}
	if n > most {
		return most
	}
	return n
}

func made(segs, room int) (*usage.Table, *model) {
	return usage.New(segs, room), &model{nearest(room, 4096), make([]codec.Use, nearest(segs, 200))}
}

func loaded(t *testing.T, m *model) *usage.Table {
	t.Helper()
	u, e := usage.Load(m.room, m.uses...)
	if e != api.OK || u == nil {
		t.Fatalf("P9.3: Load(%d, %v) = %v", m.room, m.uses, e)
	}
	return u
}

func (m *model) count(seg, n int) api.Errno {
	if seg < 0 || seg >= len(m.uses) {
		return api.ErrInval
	}
	sum := new(big.Int).Add(big.NewInt(int64(m.uses[seg].Live)), big.NewInt(int64(n)))
	if sum.Sign() < 0 || sum.Cmp(big.NewInt(int64(m.room))) > 0 {
		return api.ErrInval
	}
	m.uses[seg].Live = int(sum.Int64())
	return api.OK
}

func (m *model) touch(seg int, time uint32) api.Errno {
	if seg < 0 || seg >= len(m.uses) {
		return api.ErrInval
	}
	if m.uses[seg].Age < time {
		m.uses[seg].Age = time
	}
	return api.OK
}

func (m *model) set(seg, state int) api.Errno {
	if seg < 0 || seg >= len(m.uses) || state < 0 || state > 3 {
		return api.ErrInval
	}
	m.uses[seg].State = state
	return api.OK
}

func (m *model) release() []int {
	var list []int
	for i, x := range m.uses {
		if x.State == 1 && x.Live == 0 {
			m.uses[i] = codec.Use{}
			list = append(list, i)
		}
	}
	return list
}

// worth is by how much a segment is to be cleaned, as a fraction that isn't rounded.
func (m *model) worth(seg int, now uint32) *big.Rat {
	x := m.uses[seg]
	age := big.NewInt(1)
	if x.Age <= now {
		age.Add(age, big.NewInt(int64(now)-int64(x.Age)))
	}
	gain := new(big.Int).Mul(big.NewInt(int64(m.room-x.Live)), age)
	return new(big.Rat).SetFrac(gain, big.NewInt(int64(m.room+x.Live)))
}

// order picks the best one that is left, again and again.
func (m *model) order(now uint32) []int {
	var list []int
	for {
		best := -1
		for i, x := range m.uses {
			if x.State == 1 && !slices.Contains(list, i) && (best < 0 || m.worth(i, now).Cmp(m.worth(best, now)) > 0) {
				best = i
			}
		}
		if best < 0 {
			return list
		}
		list = append(list, best)
	}
}

// same is whether all that a table tells is what the model tells.
func (m *model) same(t *testing.T, u *usage.Table) {
	t.Helper()
	clean, first, live := 0, -1, 0
	for i, x := range m.uses {
		if x.State == 0 {
			clean++
			if first < 0 {
				first = i
			}
		}
		live += x.Live
		if got, e := u.Get(i); got != x || e != api.OK {
			t.Errorf("P9.1: Get(%d) = %+v, %v; want %+v", i, got, e, x)
		}
	}
	if u.Segs() != len(m.uses) || u.Clean() != clean || u.First() != first || u.Live() != live {
		t.Errorf("P9.1: Segs %d, Clean %d, First %d, Live %d; want %d, %d, %d, %d", u.Segs(), u.Clean(), u.First(), u.Live(), len(m.uses), clean, first, live)
	}
	if got := u.Uses(); !slices.Equal(got, m.uses) {
		t.Errorf("P9.3: Uses = %v; want %v", got, m.uses)
	}
}

func (m *model) ordered(t *testing.T, u *usage.Table, now uint32) {
	t.Helper()
	if got, want := u.Order(now), m.order(now); !slices.Equal(got, want) {
		t.Errorf("P9.2: room %d, %v: Order(%d) = %v; want %v", m.room, m.uses, now, got, want)
	}
}

// P9.1: the document's example, and the states' numbers.
func TestExample(t *testing.T) {
	u := usage.New(3, 16)
	if u.Clean() != 3 {
		t.Errorf("P9.1: Clean = %d", u.Clean())
	}
	if e, f := u.Set(1, usage.Dirty), u.Count(1, 4); e != api.OK || f != api.OK {
		t.Errorf("P9.1: Set, Count = %v, %v", e, f)
	}
	if list := u.Order(0); !slices.Equal(list, []int{1}) {
		t.Errorf("P9.1: Order = %v", list)
	}
	if got := [4]int{usage.Clean, usage.Dirty, usage.Open, usage.Held}; got != [4]int{0, 1, 2, 3} {
		t.Errorf("P9.1: the states are %v", got)
	}
}

// P9.1: a new table has as many segments as may be, each Clean; and room for as many blocks as may be.
func TestNew(t *testing.T) {
	for _, segs := range ends {
		for _, room := range ends {
			u, m := made(segs, room)
			if u.Segs() != nearest(segs, 200) {
				t.Fatalf("P9.1: New(%d, %d): Segs = %d", segs, room, u.Segs())
			}
			m.same(t, u)
			last := u.Segs() - 1
			if e := u.Count(last, m.room+1); e != api.ErrInval {
				t.Errorf("P9.1: New(%d, %d): room for more: %v", segs, room, e)
			}
			if e := u.Count(last, m.room); e != api.OK || u.Live() != m.room {
				t.Errorf("P9.1: New(%d, %d): room for less: %v", segs, room, e)
			}
		}
	}
}

// P9.1: of segments that there aren't nothing is told, and nothing changes.
func TestNoSegment(t *testing.T) {
	u, m := made(4, 16)
	m.uses[3] = codec.Use{Live: 5, State: 1, Age: 9}
	u = loaded(t, m)
	for _, seg := range append([]int{4, 5, -4}, ends...) {
		if seg >= 0 && seg < 4 {
			continue
		}
		if x, e := u.Get(seg); x != (codec.Use{}) || e != api.ErrInval {
			t.Errorf("P9.1: Get(%d) = %v, %v", seg, x, e)
		}
		if e, f, g := u.Count(seg, 1), u.Touch(seg, 99), u.Set(seg, 2); e != api.ErrInval || f != api.ErrInval || g != api.ErrInval {
			t.Errorf("P9.1: segment %d: Count, Touch, Set = %v, %v, %v", seg, e, f, g)
		}
		m.same(t, u)
	}
}

// P9.1: states that there aren't, and more or fewer blocks than may be: nothing changes.
func TestErrors(t *testing.T) {
	for _, live := range []int{0, 1, 7, 15, 16} {
		_, m := made(3, 16)
		m.uses[1] = codec.Use{Live: live, State: 3, Age: 4}
		u := loaded(t, m)
		for _, n := range ends {
			if e, want := u.Count(1, n), m.count(1, n); e != want {
				t.Errorf("P9.1: live %d: Count(%d) = %v; want %v", live, n, e, want)
			}
			m.same(t, u)
			if e, want := u.Set(1, n), m.set(1, n); e != want {
				t.Errorf("P9.1: Set(%d) = %v; want %v", n, e, want)
			}
			m.same(t, u)
		}
	}
}

// P9.1: an age is never earlier again, but of what is released.
func TestTouch(t *testing.T) {
	u, m := made(2, 8)
	for _, time := range []uint32{0, 5, 4, 0, 6, math.MaxUint32, 7, 0} {
		if e := u.Touch(1, time); e != m.touch(1, time) {
			t.Errorf("P9.1: Touch(%d) = %v", time, e)
		}
		m.same(t, u)
	}
	u.Set(1, usage.Dirty)
	u.Release()
	if x, _ := u.Get(1); x != (codec.Use{}) {
		t.Errorf("P9.1: released: %+v", x)
	}
}

// P9.1: just those that are Dirty with nothing live are released.
func TestRelease(t *testing.T) {
	_, m := made(200, 3)
	for i := range m.uses {
		m.uses[i] = codec.Use{Live: i / 4 % 3, State: i % 4, Age: uint32(i)}
	}
	u := loaded(t, m)
	for _, once := range []int{17, 0} {
		got, want := u.Release(), m.release()
		if !slices.Equal(got, want) || len(got) != once {
			t.Errorf("P9.1: Release = %v; want %v", got, want)
		}
		m.same(t, u)
	}
}

// P9.1: any calls, one behind the other.
func TestModel(t *testing.T) {
	random := rand.New(rand.NewSource(9))
	for range 120 {
		u, m := made(1+random.Intn(12), 1+random.Intn(20))
		for range 120 {
			seg := random.Intn(len(m.uses)+2) - 1
			switch random.Intn(5) {
			case 0, 1:
				n := random.Intn(2*m.room+3) - m.room - 1
				if e, want := u.Count(seg, n), m.count(seg, n); e != want {
					t.Errorf("P9.1: Count(%d, %d) = %v; want %v", seg, n, e, want)
				}
			case 2:
				time := random.Uint32() >> random.Intn(32)
				if e, want := u.Touch(seg, time), m.touch(seg, time); e != want {
					t.Errorf("P9.1: Touch(%d, %d) = %v; want %v", seg, time, e, want)
				}
			case 3:
				state := random.Intn(6) - 1
				if e, want := u.Set(seg, state), m.set(seg, state); e != want {
					t.Errorf("P9.1: Set(%d, %d) = %v; want %v", seg, state, e, want)
				}
			case 4:
				if random.Intn(6) > 0 {
					m.ordered(t, u, random.Uint32()>>random.Intn(32))
				} else if got, want := u.Release(), m.release(); !slices.Equal(got, want) {
					t.Errorf("P9.1: Release = %v; want %v", got, want)
				}
			}
			m.same(t, u)
		}
	}
}

// P9.2: none is rounded: neighbours, of which a float or a quotient of whole numbers makes the same.
func TestOrderClose(t *testing.T) {
	const most = math.MaxUint32
	for _, x := range []struct {
		room int
		now  uint32
		uses []codec.Use
		want []int
	}{
		{4096, most, []codec.Use{{Live: 1, State: 1, Age: 1}, {Live: 1, State: 1}}, []int{1, 0}},
		{4096, most, []codec.Use{{State: 1}, {State: 1, Age: 1}, {State: 1, Age: 0}, {State: 1, Age: 2}}, []int{0, 2, 1, 3}},
		{4096, 0, []codec.Use{{Live: 4095, State: 1}, {Live: 4094, State: 1}, {Live: 4096, State: 1}, {Live: 4095, State: 1}}, []int{1, 0, 3, 2}},
		{3, 2, []codec.Use{{Live: 1, State: 1, Age: 2}, {State: 1, Age: 2}, {Live: 1, State: 1, Age: 1}}, []int{1, 2, 0}},
		{1, most, []codec.Use{{Live: 1, State: 1}, {State: 1, Age: most}, {State: 1, Age: most - 1}, {Live: 1, State: 1}}, []int{2, 1, 0, 3}},
	} {
		m := &model{x.room, x.uses}
		u := loaded(t, m)
		if got := u.Order(x.now); !slices.Equal(got, x.want) {
			t.Errorf("P9.2: room %d, %v: Order(%d) = %v; want %v", x.room, x.uses, x.now, got, x.want)
		}
		m.ordered(t, u, x.now)
	}
}

// P9.2: of an age that is later than now each is 1.
func TestOrderLater(t *testing.T) {
	m := &model{16, []codec.Use{{Live: 3, State: 1, Age: math.MaxUint32}, {Live: 3, State: 1, Age: 6}, {Live: 3, State: 1, Age: 5}, {Live: 3, State: 1, Age: 4}, {Live: 2, State: 1, Age: 7}}}
	u := loaded(t, m)
	for now, want := range map[uint32][]int{0: {4, 0, 1, 2, 3}, 4: {4, 0, 1, 2, 3}, 5: {3, 4, 0, 1, 2}, 6: {3, 2, 4, 0, 1}, math.MaxUint32: {4, 3, 2, 1, 0}} {
		if got := u.Order(now); !slices.Equal(got, want) {
			t.Errorf("P9.2: Order(%d) = %v; want %v", now, got, want)
		}
		m.ordered(t, u, now)
	}
	m.same(t, u)
}

// P9.2: any tables; often such as have alike ones, and ages near to one another.
func TestOrderAny(t *testing.T) {
	random := rand.New(rand.NewSource(92))
	for range 300 {
		m := &model{room: 1 + random.Intn(4096)>>random.Intn(12)}
		base := random.Uint32() >> random.Intn(32)
		for range 1 + random.Intn(40) {
			x := codec.Use{Live: random.Intn(m.room + 1), State: random.Intn(6) % 4, Age: base + uint32(random.Intn(3))}
			if random.Intn(3) == 0 {
				x.Age = random.Uint32()
			}
			if random.Intn(2) == 0 {
				x.State = 1
			}
			if random.Intn(2) == 0 && len(m.uses) > 0 {
				x = m.uses[random.Intn(len(m.uses))]
			}
			m.uses = append(m.uses, x)
		}
		u := loaded(t, m)
		for _, now := range []uint32{0, base, base + 1, base + 2, random.Uint32(), math.MaxUint32} {
			m.ordered(t, u, now)
		}
		m.same(t, u)
	}
}

// P9.3: what Load takes is what Uses tells.
func TestLoad(t *testing.T) {
	random := rand.New(rand.NewSource(93))
	for segs := 1; segs <= 200; segs++ {
		m := &model{room: 1 + random.Intn(4096)}
		for range segs {
			m.uses = append(m.uses, codec.Use{Live: random.Intn(m.room + 1), State: random.Intn(4), Age: random.Uint32()})
		}
		u := loaded(t, m)
		m.same(t, u)
		again, e := usage.Load(m.room, u.Uses()...)
		if e != api.OK {
			t.Fatalf("P9.3: Load of Uses: %v", e)
		}
		m.same(t, again)
	}
}

// P9.3: what no table has is refused, wherever it stands.
func TestLoadErrors(t *testing.T) {
	refused := func(room int, uses []codec.Use) {
		t.Helper()
		if u, e := usage.Load(room, uses...); u != nil || e != api.ErrInval {
			t.Errorf("P9.3: Load(%d, %v) = %v, %v", room, uses, u, e)
		}
	}
	refused(16, nil)
	refused(16, []codec.Use{})
	refused(16, make([]codec.Use, 201))
	refused(16, make([]codec.Use, 5000))
	for _, n := range ends {
		for i := range 3 {
			list := make([]codec.Use, 3)
			list[i].State = n
			if n < 0 || n > 3 {
				refused(16, list)
			} else if _, e := usage.Load(16, list...); e != api.OK {
				t.Errorf("P9.3: Load of %v: %v", list, e)
			}
			for _, room := range ends {
				list[i] = codec.Use{Live: n}
				if n < 0 || n > nearest(room, 4096) {
					refused(room, list)
				} else if _, e := usage.Load(room, list...); e != api.OK {
					t.Errorf("P9.3: Load(%d, %v): %v", room, list, e)
				}
			}
		}
	}
}

// P9.3: rooms count as in New: what is loaded goes on with the same room.
func TestLoadRoom(t *testing.T) {
	for _, room := range ends {
		m := &model{nearest(room, 4096), []codec.Use{{State: 1, Age: 3}, {Live: 1, State: 1}}}
		u, e := usage.Load(room, m.uses...)
		if e != api.OK {
			t.Fatalf("P9.3: Load(%d): %v", room, e)
		}
		for _, n := range []int{m.room + 1, m.room, 1, -m.room - 1, -m.room} {
			if e, want := u.Count(0, n), m.count(0, n); e != want {
				t.Errorf("P9.3: room %d: Count(%d) = %v; want %v", room, n, e, want)
			}
		}
		m.same(t, u)
		m.ordered(t, u, 7)
	}
}

// P9.4: live divided by room, as floats.
func TestPart(t *testing.T) {
	for _, x := range []struct {
		live, room int
		want       float64
	}{
		{4, 16, 0.25}, {0, 16, 0}, {16, 16, 1}, {1, 3, 1.0 / 3.0}, {-1, 4, -0.25}, {1, -4, -0.25}, {7, 2, 3.5}, {1, 0, math.Inf(1)}, {-1, 0, math.Inf(-1)}, {math.MaxInt, 0, math.Inf(1)}, {math.MinInt, 0, math.Inf(-1)}, {math.MinInt, 1, -9223372036854775808}, {math.MaxInt, 1, 9223372036854775808}, {math.MaxInt, math.MinInt, -1}, {1<<53 + 1, 1 << 53, 1},
	} {
		if got := usage.Part(x.live, x.room); got != x.want {
			t.Errorf("P9.4: Part(%d, %d) = %v; want %v", x.live, x.room, got, x.want)
		}
	}
	if got := usage.Part(0, 0); !math.IsNaN(got) {
		t.Errorf("P9.4: Part(0, 0) = %v", got)
	}
	if got := usage.Part(0, -3); got != 0 || !math.Signbit(got) {
		t.Errorf("P9.4: Part(0, -3) = %v", got)
	}
}

// rank picks the least number that is left, again and again; then those that are none.
func rank(list []float64) []int {
	var places []int
	for {
		least := -1
		for i, x := range list {
			if !math.IsNaN(x) && !slices.Contains(places, i) && (least < 0 || x < list[least]) {
				least = i
			}
		}
		if least < 0 {
			break
		}
		places = append(places, least)
	}
	for i, x := range list {
		if math.IsNaN(x) {
			places = append(places, i)
		}
	}
	return places
}

func ranks(t *testing.T, list ...float64) {
	t.Helper()
	if got, want := usage.Rank(list...), rank(list); !slices.Equal(got, want) {
		t.Errorf("P9.4: Rank(%v) = %v; want %v", list, got, want)
	}
}

// P9.4: by hand.
func TestRank(t *testing.T) {
	none, minus := math.NaN(), math.Copysign(0, -1)
	for _, x := range []struct {
		want []int
		list []float64
	}{
		{nil, nil}, {[]int{0}, []float64{none}}, {[]int{0}, []float64{3}}, {[]int{0, 1}, []float64{0, minus}}, {[]int{0, 1}, []float64{minus, 0}}, {[]int{1, 2, 0, 3}, []float64{1, 0, minus, 1}},
		{[]int{2, 3, 4, 0, 1}, []float64{2, none, math.Inf(-1), 0, minus}}, {[]int{1, 0}, []float64{none, math.Inf(1)}}, {[]int{2, 3, 0, 1, 4}, []float64{none, none, 5, 5, none}}, {[]int{3, 2, 1, 0}, []float64{4, 3, 2, 1}},
		{[]int{1, 2, 0}, []float64{math.SmallestNonzeroFloat64, minus, 0}}, {[]int{0, 2, 1}, []float64{-math.MaxFloat64, math.MaxFloat64, 1}},
	} {
		if got := usage.Rank(x.list...); !slices.Equal(got, x.want) {
			t.Errorf("P9.4: Rank(%v) = %v; want %v", x.list, got, x.want)
		}
		ranks(t, x.list...)
	}
}

// P9.4: all lists of up to five of these numbers, and any longer ones.
func TestRankAny(t *testing.T) {
	some := []float64{math.NaN(), math.Inf(-1), -1, math.Copysign(0, -1), 0, 2, math.Inf(1), math.Copysign(math.NaN(), -1)}
	list := make([]float64, 5)
	for n := range 1 << 15 {
		for i := range list {
			list[i] = some[n>>(3*i)&7]
		}
		ranks(t, list[:1+n%5]...)
		ranks(t, list...)
	}
	random := rand.New(rand.NewSource(94))
	for size := range 150 {
		long := make([]float64, size)
		for i := range long {
			long[i] = float64(random.Intn(size)) - 9
			if random.Intn(9) == 0 {
				long[i] = some[random.Intn(8)]
			}
		}
		ranks(t, long...)
	}
}

// P9.4: long lists, in their order and against it, come to an end.
func TestRankLong(t *testing.T) {
	const size = 1 << 17
	up, down := make([]float64, size), make([]float64, size)
	for i := range size {
		up[i], down[i] = float64(i), float64(-i)
	}
	first, second := usage.Rank(up...), usage.Rank(down...)
	for i := range size {
		if first[i] != i || second[i] != size-1-i {
			t.Fatalf("P9.4: at %d: %d and %d", i, first[i], second[i])
		}
	}
}

// Rule 5: nothing that is handed in is changed or kept, and answers share no memory.
func TestKept(t *testing.T) {
	list := []codec.Use{{Live: 1, State: 1}, {Live: 2, State: 1}, {Live: 3}}
	kept := slices.Clone(list)
	u, _ := usage.Load(16, list[:2]...)
	u.Count(0, 5)
	u.Touch(0, 5)
	u.Set(1, 3)
	if !slices.Equal(list, kept) {
		t.Errorf("rule 5: %v is %v", kept, list)
	}
	list[0].Live = 9
	uses := u.Uses()
	want := []codec.Use{{Live: 6, State: 1, Age: 5}, {Live: 2, State: 3}}
	if !slices.Equal(uses, want) {
		t.Errorf("rule 5: Uses = %v", uses)
	}
	uses[0] = codec.Use{}
	_ = append(uses[:1], codec.Use{Live: 8})
	order := u.Order(9)
	order[0] = 7
	if again := u.Uses(); !slices.Equal(again, want) || !slices.Equal(u.Order(9), []int{0}) {
		t.Errorf("rule 5: Uses = %v", again)
	}
	numbers := []float64{3, 1, 2}
	places := usage.Rank(numbers[:2]...)
	places[0] = 9
	if !slices.Equal(numbers, []float64{3, 1, 2}) || !slices.Equal(usage.Rank(numbers...), []int{1, 2, 0}) {
		t.Errorf("rule 5: Rank changed %v", numbers)
	}
}

// P1: no call panics, whatever it is given.
func TestNoPanic(t *testing.T) {
	for _, a := range ends {
		for _, b := range ends {
			u := usage.New(a, b)
			for _, c := range []uint32{0, 1, math.MaxUint32} {
				u.Set(a, b)
				u.Count(a, b)
				u.Touch(a, c)
				u.Order(c)
			}
			u.Get(b)
			u.Release()
			usage.Part(a, b)
			usage.Rank(usage.Part(a, b), usage.Part(b, a), usage.Part(a, 0))
			if v, e := usage.Load(a, codec.Use{Live: b, State: 1, Age: 1}, codec.Use{State: a}); e == api.OK {
				v.Order(0)
			}
		}
	}
}
