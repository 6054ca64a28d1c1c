package fd_test

import (
	"math/rand"
	"slices"
	"testing"

	"drumlin/api"
	"drumlin/fd"
)

// set is a Set as the document tells it: of each fd that is known what it is.
type set struct {
	most int
	ids  map[int]int
}

func (m set) copy() set {
	other := set{m.most, map[int]int{}}
	for n, id := range m.ids {
		other.ids[n] = id
	}
	return other
}

func (m set) get(n int) (int, api.Errno) {
	id, ok := m.ids[n]
	if !ok {
		return 0, api.ErrBadf
	}
	return id, api.OK
}

func (m set) put(id int) (int, api.Errno) {
	if id < 0 {
		return 0, api.ErrInval
	}
	for n := range m.most {
		if _, ok := m.ids[n]; !ok {
			m.ids[n] = id
			return n, api.OK
		}
	}
	return 0, api.ErrMfile
}

func (m set) take(n int) (int, api.Errno) {
	id, e := m.get(n)
	delete(m.ids, n)
	return id, e
}

func (m set) at(n, id int) (int, api.Errno) {
	if n < 0 || n >= m.most {
		return 0, api.ErrBadf
	}
	if id < 0 {
		return 0, api.ErrInval
	}
	was, ok := m.ids[n]
	if !ok {
		was = -1
	}
	m.ids[n] = id
	return was, api.OK
}

// same: is all that can be told of a set what the model tells?
func (m set) same(t *testing.T, s *fd.Set) {
	t.Helper()
	var fds, all []int
	for n := -2; n < m.most+3; n++ {
		id, e := s.Get(n)
		want, g := m.get(n)
		if id != want || e != g {
			t.Fatalf("P20.2: Get(%d) = %d, %v; want %d, %v", n, id, e, want, g)
		}
		if g == api.OK {
			fds, all = append(fds, n), append(all, want)
		}
	}
	if got := s.Known(); !slices.Equal(got, fds) {
		t.Fatalf("P20.2: Known = %v; want %v", got, fds)
	}
	if got := s.All(); !slices.Equal(got, all) {
		t.Fatalf("P20.2: All = %v; want %v", got, all)
	}
}

// P20.2: the document's example.
func TestSetExample(t *testing.T) {
	s := fd.NewSet(3)
	for _, x := range []struct {
		what string
		do   func(int) (int, api.Errno)
		n    int
		want int
	}{{"Put", s.Put, 7, 0}, {"Put", s.Put, 7, 1}, {"Take", s.Take, 0, 7}, {"Put", s.Put, 9, 0}} {
		if n, e := x.do(x.n); n != x.want || e != api.OK {
			t.Errorf("P20.2: %s(%d) = %d, %v; want %d", x.what, x.n, n, e, x.want)
		}
	}
}

// P20.2: as many fds as most, which is brought among 1 and 16; none is known at first.
func TestSetMost(t *testing.T) {
	for _, most := range ends {
		s, m := fd.NewSet(most), set{nearest(most, 16), map[int]int{}}
		m.same(t, s)
		if s.Known() != nil || s.All() != nil {
			t.Errorf("P20.2: NewSet(%d) knows %v, %v", most, s.Known(), s.All())
		}
		for want := range m.most {
			if n, e := s.Put(40 - want); n != want || e != api.OK {
				t.Fatalf("P20.2: NewSet(%d): Put = %d, %v; want %d", most, n, e, want)
			}
			m.put(40 - want)
		}
		m.same(t, s)
		if n, e := s.Put(0); n != 0 || e != api.ErrMfile {
			t.Errorf("P20.2: NewSet(%d): Put of one more = %d, %v", most, n, e)
		}
		if n, e := s.Put(-1); n != 0 || e != api.ErrInval {
			t.Errorf("P20.2: NewSet(%d): Put of one more that may not be = %d, %v", most, n, e)
		}
		m.same(t, s)
	}
}

// P20.2: fds and numbers at the edges.
func TestSetEnds(t *testing.T) {
	for _, n := range ends {
		for _, id := range ends {
			s, m := fd.NewSet(9), set{9, map[int]int{}}
			s.At(5, 3)
			m.at(5, 3)
			for _, x := range []struct {
				what string
				do   func() (int, api.Errno)
				want func() (int, api.Errno)
			}{
				{"At", func() (int, api.Errno) { return s.At(n, id) }, func() (int, api.Errno) { return m.at(n, id) }},
				{"At again", func() (int, api.Errno) { return s.At(n, 0) }, func() (int, api.Errno) { return m.at(n, 0) }},
				{"Put", func() (int, api.Errno) { return s.Put(id) }, func() (int, api.Errno) { return m.put(id) }},
				{"Take", func() (int, api.Errno) { return s.Take(n) }, func() (int, api.Errno) { return m.take(n) }},
				{"Take again", func() (int, api.Errno) { return s.Take(n) }, func() (int, api.Errno) { return m.take(n) }},
			} {
				got, e := x.do()
				if want, g := x.want(); got != want || e != g {
					t.Errorf("P20.2: %s of fd %d, number %d = %d, %v; want %d, %v", x.what, n, id, got, e, want, g)
				}
				m.same(t, s)
			}
		}
	}
}

// P20.2: any calls, one behind the other, of a set and of others like it.
func TestSetAny(t *testing.T) {
	r := rand.New(rand.NewSource(202))
	for _, most := range []int{0, 1, 2, 7, 16, 40} {
		sets, models := []*fd.Set{fd.NewSet(most)}, []set{{nearest(most, 16), map[int]int{}}}
		for range 4000 {
			i := r.Intn(len(sets))
			s, m := sets[i], models[i]
			n, id := r.Intn(m.most+3)-1, r.Intn(9)-1
			var got, want int
			var e, g api.Errno
			switch r.Intn(6) {
			case 0, 1:
				got, e = s.Put(id)
				want, g = m.put(id)
			case 2, 3:
				got, e = s.Take(n)
				want, g = m.take(n)
			case 4:
				got, e = s.At(n, id)
				want, g = m.at(n, id)
			case 5:
				if i = (i + 1) % 4; i < len(sets) {
					sets[i], models[i] = s.Clone(), m.copy()
				} else {
					sets, models = append(sets, s.Clone()), append(models, m.copy())
				}
			}
			if got != want || e != g {
				t.Fatalf("P20.2: fd %d, number %d: %d, %v; want %d, %v", n, id, got, e, want, g)
			}
			for i := range sets {
				models[i].same(t, sets[i])
			}
		}
	}
}

// Memory: answers are new, and a Clone goes its own way.
func TestSetMemory(t *testing.T) {
	s := fd.NewSet(3)
	s.Put(5)
	s.Put(6)
	s.Known()[0] = 9
	s.All()[0] = 9
	c := s.Clone()
	c.Take(0)
	c.At(1, 8)
	s.Put(7)
	if got := s.All(); !slices.Equal(got, []int{5, 6, 7}) || !slices.Equal(s.Known(), []int{0, 1, 2}) {
		t.Errorf("P20.2: All = %v", got)
	}
	if got := c.All(); !slices.Equal(got, []int{8}) || !slices.Equal(c.Known(), []int{1}) {
		t.Errorf("P20.2: All of the other one = %v", got)
	}
}
