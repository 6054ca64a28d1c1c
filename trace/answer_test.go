package trace_test

import (
	"math"
	"math/rand"
	"slices"
	"strings"
	"testing"

	"drumlin/api"
	"drumlin/sys"
	"drumlin/trace"
)

// P25.4: what an answer of stat has.
func TestStat(t *testing.T) {
	type stat [5]int
	for _, x := range []struct {
		answer sys.Answer
		want   stat
		e      api.Errno
	}{
		{sys.Answer{N: 2, M: 1, Data: []byte("\x01\x00\x00\x00\x00\x00\x00")}, stat{2, 1, 1, 0, 0}, api.OK},
		{sys.Answer{N: 3, M: 136192, Data: []byte("\x02\x64\x00\x04\x03\x02\x01")}, stat{3, 136192, 2, 100, 0x01020304}, api.OK},
		{sys.Answer{N: 3, Data: []byte("\x01\x02\x03\x00\x00\x00\x80")}, stat{3, 0, 1, 0x302, 1 << 31}, api.OK},
		{sys.Answer{N: -1, M: math.MinInt, Data: []byte("\xff\xff\xff\xff\xff\xff\xff")}, stat{-1, math.MinInt, 255, 65535, math.MaxUint32}, api.OK},
		{sys.Answer{Data: make([]byte, 7)}, stat{}, api.OK},
		{sys.Answer{N: 2, M: 1}, stat{}, api.ErrForm},
		{sys.Answer{N: 2, M: 1, Data: []byte{}}, stat{}, api.ErrForm},
		{sys.Answer{N: 2, M: 1, Data: []byte("\x01\x01\x00\x00\x00\x00")}, stat{}, api.ErrForm},
		{sys.Answer{N: 2, M: 1, Data: []byte("\x01\x01\x00\x00\x00\x00\x00\x00")}, stat{}, api.ErrForm},
		{sys.Answer{N: 2, M: 1, Data: make([]byte, 100000)}, stat{}, api.ErrForm},
		{sys.Answer{Err: api.ErrNoent}, stat{}, api.ErrForm},
		{sys.Answer{Err: api.ErrInval, N: 2, M: 1, Data: []byte("\x01\x01\x00\x00\x00\x00\x00")}, stat{}, api.ErrForm},
		{sys.Answer{Err: -1, N: 2, M: 1, Data: []byte("\x01\x01\x00\x00\x00\x00\x00")}, stat{}, api.ErrForm},
	} {
		num, size, kind, links, time, e := trace.Stat(x.answer)
		if got := (stat{num, size, kind, links, time}); got != x.want || e != x.e {
			t.Errorf("P25.4: Stat of %.80q = %v, %v; want %v, %v", x.answer.Text(), got, e, x.want, x.e)
		}
	}
}

// P25.4: what an answer of list has.
func TestList(t *testing.T) {
	long := strings.Repeat("n", 255)
	for _, x := range []struct {
		answer sys.Answer
		names  []string
		nums   []int
	}{
		{sys.Answer{}, nil, nil},
		{sys.Answer{Data: []byte{}}, nil, nil},
		{sys.Answer{M: 7}, nil, nil},
		{sys.Answer{N: 1, Data: []byte("\x03\x00\x02ab")}, []string{"ab"}, []int{3}},
		{sys.Answer{N: 2, Data: []byte("\x01\x00\x02..\x04\x03\x01a")}, []string{"..", "a"}, []int{1, 0x304}},
		{sys.Answer{N: 1, Data: []byte("\x00\x00\x00")}, []string{""}, []int{0}},
		{sys.Answer{N: 3, Data: []byte("\xff\xff\x00\x02\x00\x01\x00\x00\x80\x00")}, []string{"", "\x00", ""}, []int{65535, 2, 0x8000}},
		{sys.Answer{N: 2, Data: []byte("\x05\x00\xff" + long + "\x05\x00\x01/")}, []string{long, "/"}, []int{5, 5}},
	} {
		names, nums, e := trace.List(x.answer)
		if e != api.OK || !slices.Equal(names, x.names) || !slices.Equal(nums, x.nums) {
			t.Errorf("P25.4: List of %.80q = %q, %v, %v", x.answer.Text(), names, nums, e)
		}
	}
	for _, a := range []sys.Answer{
		{N: 1},
		{N: -1},
		{N: math.MaxInt},
		{N: 0, Data: []byte("\x03\x00\x02ab")},
		{N: 2, Data: []byte("\x03\x00\x02ab")},
		{N: -1, Data: []byte("\x03\x00\x02ab")},
		{N: math.MinInt, Data: []byte("\x03\x00\x02ab")},
		{N: 1, Data: []byte("\x03")},
		{N: 1, Data: []byte("\x03\x00")},
		{N: 1, Data: []byte("\x03\x00\x01")},
		{N: 1, Data: []byte("\x03\x00\x02a")},
		{N: 1, Data: []byte("\x03\x00\xffa")},
		{N: 1, Data: []byte("\x03\x00\x02abc")},
		{N: 2, Data: []byte("\x03\x00\x02abc")},
		{N: 2, Data: []byte("\x03\x00\x02abc\x00")},
		{N: 1, Data: []byte("\x03\x00\x01ab")},
		{Err: api.ErrNotdir},
		{Err: api.ErrInval, N: 1, Data: []byte("\x03\x00\x02ab")},
		{Err: -1, N: 1, Data: []byte("\x03\x00\x02ab")},
		{Err: api.ErrInval, N: 1},
	} {
		if names, nums, e := trace.List(a); e != api.ErrForm || names != nil || nums != nil {
			t.Errorf("P25.4: List of %q = %q, %v, %v", a.Text(), names, nums, e)
		}
	}
}

// P25.4: any entries, and any Data: what is answered makes just these Data again.
func TestListAny(t *testing.T) {
	r := rand.New(rand.NewSource(254))
	read, refused := 0, 0
	for range 50000 {
		a := sys.Answer{N: r.Intn(4), M: r.Intn(2)}
		for range a.N {
			size := r.Intn(4)
			a.Data = append(a.Data, byte(r.Intn(256)), byte(r.Intn(256)), byte(size))
			for range size {
				a.Data = append(a.Data, byte(r.Intn(4)))
			}
		}
		if len(a.Data) > 0 && r.Intn(2) == 0 {
			a.Data[r.Intn(len(a.Data))] = byte(r.Intn(4))
		}
		if r.Intn(4) == 0 {
			a.Data = a.Data[:r.Intn(len(a.Data)+1)]
		}
		was := slices.Clone(a.Data)
		names, nums, e := trace.List(a)
		if !slices.Equal(a.Data, was) {
			t.Fatalf("P25.4: List changed Data: %q, not %q", a.Data, was)
		}
		want, whole := entries(a.Data)
		if whole = whole && want == a.N; whole != (e == api.OK) {
			t.Fatalf("P25.4: List of %q = %q, %v, %v", a.Text(), names, nums, e)
		}
		if e != api.OK {
			refused++
			if e != api.ErrForm || names != nil || nums != nil {
				t.Fatalf("P25.4: List of %q = %q, %v, %v", a.Text(), names, nums, e)
			}
			continue
		}
		read++
		var back []byte
		for i, name := range names {
			back = append(back, byte(nums[i]), byte(nums[i]>>8), byte(len(name)))
			back = append(back, name...)
		}
		if len(names) != a.N || len(nums) != a.N || !slices.Equal(back, a.Data) {
			t.Fatalf("P25.4: List of %q = %q, %v", a.Text(), names, nums)
		}
	}
	if read < 500 || refused < 500 {
		t.Errorf("P25.4: %d read, %d refused: the test is in vain", read, refused)
	}
}

// entries: how many of them bytes have; false: they aren't such.
func entries(b []byte) (int, bool) {
	at, n := 0, 0
	for at < len(b) {
		if at+3 > len(b) {
			return 0, false
		}
		at += 3 + int(b[at+2])
		n++
	}
	return n, at == len(b)
}
