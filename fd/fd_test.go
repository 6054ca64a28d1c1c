package fd_test

import (
	"math"
	"math/rand"
	"slices"
	"testing"

	"drumlin/api"
	"drumlin/fd"
)

// ends are numbers at the edges of what there is, and far off.
var ends = []int{math.MinInt, -1 << 32, -2, -1, 0, 1, 2, 3, 4, 5, 7, 8, 15, 16, 17, 63, 64, 65, 1 << 32, math.MaxInt}

// nearest: n, brought among 1 and most.
func nearest(n, most int) int {
	if n < 1 {
		return 1
	}
	if n > most {
		return most
	}
	return n
}

// P20.1: the numbers of kinds and flags.
func TestNumbers(t *testing.T) {
	if fd.Inode != 1 || fd.In != 2 || fd.Out != 3 || fd.Read != 1 || fd.Write != 2 || fd.Append != 4 {
		t.Errorf("P20.1: %d, %d, %d; %d, %d, %d", fd.Inode, fd.In, fd.Out, fd.Read, fd.Write, fd.Append)
	}
}

// files is a Files as the document tells it.
type files []fd.Open

func (m files) get(id int) (fd.Open, api.Errno) {
	if id < 0 || id >= len(m) || m[id].Refs == 0 {
		return fd.Open{}, api.ErrBadf
	}
	return m[id], api.OK
}

func (m files) count() int {
	n := 0
	for _, o := range m {
		if o.Refs > 0 {
			n++
		}
	}
	return n
}

func (m files) open(kind, num, flags int) (int, api.Errno) {
	if kind < 1 || kind > 3 || num < 1 || flags < 1 || flags > 7 {
		return 0, api.ErrInval
	}
	for id, o := range m {
		if o.Refs == 0 {
			m[id] = fd.Open{Kind: kind, Num: num, Flags: flags, Refs: 1}
			return id, api.OK
		}
	}
	return 0, api.ErrNfile
}

func (m files) ref(id int) api.Errno {
	_, e := m.get(id)
	if e == api.OK {
		m[id].Refs++
	}
	return e
}

func (m files) close(id int) (fd.Open, bool, api.Errno) {
	o, e := m.get(id)
	if e != api.OK {
		return o, false, e
	}
	m[id].Refs--
	if o.Refs == 1 {
		m[id] = fd.Open{}
	}
	return o, o.Refs == 1, e
}

func (m files) move(id, at int) api.Errno {
	_, e := m.get(id)
	if e == api.OK && at < 0 {
		return api.ErrInval
	}
	if e == api.OK {
		m[id].At = at
	}
	return e
}

// same: is all that can be told of open files what the model tells?
func (m files) same(t *testing.T, f *fd.Files) {
	t.Helper()
	if f.Count() != m.count() {
		t.Fatalf("P20.1: Count = %d; want %d", f.Count(), m.count())
	}
	for id := -2; id < len(m)+3; id++ {
		o, e := f.Get(id)
		if want, g := m.get(id); o != want || e != g {
			t.Fatalf("P20.1: Get(%d) = %v, %v; want %v, %v", id, o, e, want, g)
		}
	}
}

// P20.1: as many as most, which is brought among 1 and 64; the least number first.
func TestMost(t *testing.T) {
	for _, most := range append(ends, 40, 62) {
		f := fd.NewFiles(most)
		n := nearest(most, 64)
		m := make(files, n)
		m.same(t, f)
		for want := range n {
			if id, e := f.Open(fd.Inode, want+1, fd.Read); id != want || e != api.OK {
				t.Fatalf("P20.1: NewFiles(%d): Open = %d, %v; want %d", most, id, e, want)
			}
			m.open(fd.Inode, want+1, fd.Read)
		}
		m.same(t, f)
		if id, e := f.Open(fd.Inode, 1, fd.Read); id != 0 || e != api.ErrNfile {
			t.Errorf("P20.1: NewFiles(%d): Open of one more = %d, %v", most, id, e)
		}
		if id, e := f.Open(fd.Inode, 0, fd.Read); id != 0 || e != api.ErrInval {
			t.Errorf("P20.1: NewFiles(%d): Open of one more that may not be = %d, %v", most, id, e)
		}
		m.same(t, f)
		if o, last, e := f.Close(n / 2); o != (fd.Open{Kind: fd.Inode, Num: n/2 + 1, Flags: fd.Read, Refs: 1}) || !last || e != api.OK {
			t.Errorf("P20.1: NewFiles(%d): Close = %v, %v, %v", most, o, last, e)
		}
		if id, e := f.Open(fd.Out, 9, fd.Append); id != n/2 || e != api.OK {
			t.Errorf("P20.1: NewFiles(%d): Open behind a Close = %d, %v", most, id, e)
		}
	}
}

// P20.1: what may be opened: any kind, number and flags at the edges.
func TestOpen(t *testing.T) {
	for _, kind := range ends {
		for _, num := range ends {
			for _, flags := range append(ends, 6) {
				f, m := fd.NewFiles(3), make(files, 3)
				f.Open(fd.Out, 7, fd.Write)
				m.open(fd.Out, 7, fd.Write)
				id, e := f.Open(kind, num, flags)
				if want, g := m.open(kind, num, flags); id != want || e != g {
					t.Errorf("P20.1: Open(%d, %d, %d) = %d, %v; want %d, %v", kind, num, flags, id, e, want, g)
				}
				m.same(t, f)
			}
		}
	}
}

// P20.1: of what isn't open, and of numbers that there aren't, all calls tell ErrBadf, and nothing.
func TestBadf(t *testing.T) {
	f := fd.NewFiles(3)
	f.Open(fd.Inode, 1, fd.Read)
	f.Open(fd.Inode, 2, fd.Read)
	f.Close(0)
	for _, id := range ends {
		if id == 1 {
			continue
		}
		o, e := f.Get(id)
		p, last, g := f.Close(id)
		if o != (fd.Open{}) || e != api.ErrBadf || p != (fd.Open{}) || last || g != api.ErrBadf {
			t.Errorf("P20.1: Get(%d), Close = %v, %v, %v, %v, %v", id, o, e, p, last, g)
		}
		if e := f.Ref(id); e != api.ErrBadf {
			t.Errorf("P20.1: Ref(%d) = %v", id, e)
		}
		for _, at := range ends {
			if e := f.Move(id, at); e != api.ErrBadf {
				t.Errorf("P20.1: Move(%d, %d) = %v", id, at, e)
			}
		}
	}
	if o, e := f.Get(1); o != (fd.Open{Kind: fd.Inode, Num: 2, Flags: fd.Read, Refs: 1}) || e != api.OK || f.Count() != 1 {
		t.Errorf("P20.1: Get = %v, %v", o, e)
	}
}

// P20.1: Move takes any place that isn't below 0; a place, and Refs, are gone with the last Close.
func TestMove(t *testing.T) {
	f := fd.NewFiles(1)
	for _, at := range ends {
		f.Open(fd.In, 3, fd.Read|fd.Append)
		f.Move(0, 5)
		f.Ref(0)
		want, e := fd.Open{Kind: fd.In, Num: 3, At: 5, Flags: 5, Refs: 2}, api.ErrInval
		if at >= 0 {
			want.At, e = at, api.OK
		}
		if g := f.Move(0, at); g != e {
			t.Errorf("P20.1: Move(%d) = %v; want %v", at, g, e)
		}
		if o, last, e := f.Close(0); o != want || last || e != api.OK || f.Count() != 1 {
			t.Errorf("P20.1: Close behind Move(%d) = %v, %v, %v; want %v", at, o, last, e, want)
		}
		want.Refs = 1
		if o, last, e := f.Close(0); o != want || !last || e != api.OK || f.Count() != 0 {
			t.Errorf("P20.1: the last Close = %v, %v, %v; want %v", o, last, e, want)
		}
		f.Open(fd.Inode, 1, fd.Write)
		if o, e := f.Get(0); o != (fd.Open{Kind: fd.Inode, Num: 1, Flags: fd.Write, Refs: 1}) || e != api.OK {
			t.Errorf("P20.1: Get of what was opened again = %v, %v", o, e)
		}
		f.Close(0)
	}
}

// P20.1: any calls, one behind the other.
func TestFilesAny(t *testing.T) {
	r := rand.New(rand.NewSource(201))
	for _, most := range []int{-3, 1, 2, 5, 64, 99} {
		f, m := fd.NewFiles(most), make(files, nearest(most, 64))
		full := 0
		for range 4000 {
			id := r.Intn(len(m)+2) - 1
			switch r.Intn(7) {
			case 0, 1, 2:
				kind, num, flags := r.Intn(12)%5, r.Intn(9), r.Intn(9)
				got, e := f.Open(kind, num, flags)
				want, g := m.open(kind, num, flags)
				if got != want || e != g {
					t.Fatalf("P20.1: Open(%d, %d, %d) = %d, %v; want %d, %v", kind, num, flags, got, e, want, g)
				}
				if e == api.ErrNfile {
					full++
				}
			case 3:
				if e, g := f.Ref(id), m.ref(id); e != g {
					t.Fatalf("P20.1: Ref(%d) = %v; want %v", id, e, g)
				}
			case 4, 5:
				o, last, e := f.Close(id)
				if p, done, g := m.close(id); o != p || last != done || e != g {
					t.Fatalf("P20.1: Close(%d) = %v, %v, %v; want %v, %v, %v", id, o, last, e, p, done, g)
				}
			case 6:
				at := r.Intn(20) - 3
				if e, g := f.Move(id, at), m.move(id, at); e != g {
					t.Fatalf("P20.1: Move(%d, %d) = %v; want %v", id, at, e, g)
				}
			}
			m.same(t, f)
		}
		if full == 0 && most < 64 {
			t.Errorf("P20.1: NewFiles(%d) was never full: the test is in vain", most)
		}
	}
}

// P20.3: many sets of some files: who counts a Ref for each fd has at the end just what is known.
func TestSets(t *testing.T) {
	r := rand.New(rand.NewSource(203))
	f := fd.NewFiles(12)
	sets := []*fd.Set{fd.NewSet(4)}
	for range 20000 {
		s := sets[r.Intn(len(sets))]
		switch r.Intn(9) {
		case 0, 1, 2:
			if id, e := f.Open(fd.Inode, 1+r.Intn(9), fd.Read); e == api.OK {
				if _, e := s.Put(id); e != api.OK {
					f.Close(id)
				}
			}
		case 3, 4:
			if id, e := s.Get(r.Intn(4)); e == api.OK {
				f.Ref(id)
				if was, e := s.At(r.Intn(4), id); e == api.OK && was >= 0 {
					f.Close(was)
				}
			}
		case 5, 6:
			if id, e := s.Take(r.Intn(4)); e == api.OK {
				f.Close(id)
			}
		case 7:
			if len(sets) < 6 {
				sets = append(sets, s.Clone())
				for _, id := range s.All() {
					f.Ref(id)
				}
			}
		case 8:
			if len(sets) > 1 {
				sets = slices.DeleteFunc(sets, func(x *fd.Set) bool { return x == s })
				for _, id := range s.All() {
					f.Close(id)
				}
			}
		}
		known(t, f, sets)
	}
	for _, s := range sets {
		for _, n := range s.Known() {
			id, _ := s.Take(n)
			f.Close(id)
		}
	}
	if f.Count() != 0 {
		t.Errorf("P20.3: %d are open that nobody knows", f.Count())
	}
}

// known: has each open file as many Refs as sets know it?
func known(t *testing.T, f *fd.Files, sets []*fd.Set) {
	t.Helper()
	var refs [12]int
	for _, s := range sets {
		for _, id := range s.All() {
			refs[id]++
		}
	}
	open := 0
	for id, n := range refs {
		o, e := f.Get(id)
		if o.Refs != n || (e == api.OK) != (n > 0) {
			t.Fatalf("P20.3: %d is known %d times: Get = %v, %v", id, n, o, e)
		}
		if n > 0 {
			open++
		}
	}
	if f.Count() != open {
		t.Fatalf("P20.3: Count = %d; want %d", f.Count(), open)
	}
}
