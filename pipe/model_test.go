package pipe_test

import (
	"bytes"
	"math"
	"testing"

	"drumlin/api"
	"drumlin/pipe"
)

// edges are numbers at the edges of what there is, and far off.
var edges = []int{math.MinInt, math.MinInt + 1, -1 << 32, -1001, -1000, -2, -1, 0, 1, 2, 3, 4, 63, 64, 65, 998, 999, 1000, 1001, 1 << 32, math.MaxInt - 1, math.MaxInt}

// nearest: n, brought among 1 and most.
func nearest(n, most int) int {
	if n < 1 {
		return 1
	}
	if n > most {
		return most
	}
	return n
}

// one is a pipe as the document tells it: all that was written, and how much of it was read.
type one struct {
	there            bool
	readers, writers int
	written          []byte
	read             int
}

func (x *one) length() int {
	return len(x.written) - x.read
}

// model is what the document tells of Pipes: the pipe of the number 1 is the first one.
type model []one

func newModel(most int) model {
	return make(model, nearest(most, 64))
}

func (m model) find(num int) *one {
	if num < 1 || num > len(m) || !m[num-1].there {
		return nil
	}
	return &m[num-1]
}

func (m model) count() int {
	n := 0
	for _, x := range m {
		if x.there {
			n++
		}
	}
	return n
}

func (m model) make() (int, api.Errno) {
	for i, x := range m {
		if !x.there {
			m[i] = one{there: true, readers: 1, writers: 1}
			return i + 1, api.OK
		}
	}
	return 0, api.ErrNfile
}

// sum: how many ends there would be; false, if that may not be.
func sum(ends, more int) (int, bool) {
	if more < -2000 || more > 2000 {
		return 0, false
	}
	n := ends + more
	return n, n >= 0 && n <= 1000
}

func (m model) add(num, readers, writers int) api.Errno {
	x := m.find(num)
	if x == nil {
		return api.ErrBadf
	}
	r, ok := sum(x.readers, readers)
	w, fine := sum(x.writers, writers)
	if !ok || !fine {
		return api.ErrInval
	}
	x.readers, x.writers = r, w
	if r == 0 && w == 0 {
		*x = one{}
	}
	return api.OK
}

func (m model) write(num int, b []byte) (int, api.Errno) {
	x := m.find(num)
	switch {
	case x == nil:
		return 0, api.ErrBadf
	case len(b) == 0:
		return 0, api.OK
	case x.readers == 0:
		return 0, api.ErrPipe
	case x.length() == 64:
		return 0, api.ErrAgain
	}
	n := 0
	for n < len(b) && x.length() < 64 {
		x.written = append(x.written, b[n])
		n++
	}
	return n, api.OK
}

func (m model) reads(num, n int) ([]byte, api.Errno) {
	x := m.find(num)
	switch {
	case x == nil:
		return nil, api.ErrBadf
	case n < 0:
		return nil, api.ErrInval
	case n > 0 && x.length() == 0 && x.writers > 0:
		return nil, api.ErrAgain
	}
	b := x.written[x.read:]
	if n < len(b) {
		b = b[:n]
	}
	x.read += len(b)
	return b, api.OK
}

// both are Pipes and their model: each call is done by both, and answers alike.
type both struct {
	t *testing.T
	p *pipe.Pipes
	m model
}

func start(t *testing.T, most int) both {
	t.Helper()
	b := both{t, pipe.New(most), newModel(most)}
	b.same()
	return b
}

// same: is all that can be told of pipes, and changes nothing, what the model tells?
func (b both) same() {
	b.t.Helper()
	if b.p.Count() != b.m.count() {
		b.t.Fatalf("P21.1: Count = %d; want %d", b.p.Count(), b.m.count())
	}
	for num := -1; num < len(b.m)+3; num++ {
		b.sameOne(num)
	}
}

func (b both) sameOne(num int) {
	b.t.Helper()
	var want one
	g := api.ErrBadf
	if x := b.m.find(num); x != nil {
		want, g = *x, api.OK
	}
	readers, writers, e := b.p.Ends(num)
	if readers != want.readers || writers != want.writers || e != g {
		b.t.Fatalf("P21.1: Ends(%d) = %d, %d, %v; want %d, %d, %v", num, readers, writers, e, want.readers, want.writers, g)
	}
	n, e := b.p.Len(num)
	if n != want.length() || e != g {
		b.t.Fatalf("P21.1: Len(%d) = %d, %v; want %d, %v", num, n, e, want.length(), g)
	}
	if n < 0 || n > 64 {
		b.t.Fatalf("P21.3: Len(%d) = %d", num, n)
	}
}

func (b both) make() int {
	b.t.Helper()
	num, e := b.p.Make()
	if want, g := b.m.make(); num != want || e != g {
		b.t.Fatalf("P21.1: Make = %d, %v; want %d, %v", num, e, want, g)
	}
	return num
}

func (b both) add(num, readers, writers int) api.Errno {
	b.t.Helper()
	e := b.p.Add(num, readers, writers)
	if g := b.m.add(num, readers, writers); e != g {
		b.t.Fatalf("P21.1: Add(%d, %d, %d) = %v; want %v", num, readers, writers, e, g)
	}
	return e
}

func (b both) write(num int, list []byte) api.Errno {
	b.t.Helper()
	n, e := b.p.Write(num, list)
	if want, g := b.m.write(num, list); n != want || e != g {
		b.t.Fatalf("P21.1: Write(%d) of %d bytes = %d, %v; want %d, %v", num, len(list), n, e, want, g)
	}
	return e
}

func (b both) read(num, n int) api.Errno {
	b.t.Helper()
	got, e := b.p.Read(num, n)
	if want, g := b.m.reads(num, n); !bytes.Equal(got, want) || e != g {
		b.t.Fatalf("P21.2: Read(%d, %d) = %q, %v; want %q, %v", num, n, got, e, want, g)
	}
	return e
}

// drain: all its bytes are read, and are the model's.
func (b both) drain(num int) {
	b.t.Helper()
	b.read(num, math.MaxInt)
	b.sameOne(num)
}
