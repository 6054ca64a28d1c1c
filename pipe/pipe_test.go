package pipe_test

import (
	"bytes"
	"math"
	"math/rand"
	"testing"

	"drumlin/api"
	"drumlin/pipe"
)

// filled: so many bytes, which tell where they stand.
func filled(n int) []byte {
	b := make([]byte, n)
	for i := range b {
		b[i] = byte(i*7 + 1)
	}
	return b
}

// P21.1: the document's example.
func TestExample(t *testing.T) {
	p := pipe.New(1)
	if num, e := p.Make(); num != 1 || e != api.OK {
		t.Errorf("P21.1: Make = %d, %v", num, e)
	}
	if n, e := p.Write(1, []byte("abc")); n != 3 || e != api.OK {
		t.Errorf("P21.1: Write = %d, %v", n, e)
	}
	if b, e := p.Read(1, 2); string(b) != "ab" || e != api.OK {
		t.Errorf("P21.1: Read = %q, %v", b, e)
	}
	if e := p.Add(1, 0, -1); e != api.OK {
		t.Errorf("P21.1: Add = %v", e)
	}
	for _, want := range []string{"c", "", ""} {
		if b, e := p.Read(1, 9); string(b) != want || e != api.OK {
			t.Errorf("P21.1: Read = %q, %v; want %q", b, e, want)
		}
	}
}

// P21.1: as many as most, which is brought among 1 and 64; the least number first.
func TestMost(t *testing.T) {
	for _, most := range append(edges, 40, 62) {
		b := start(t, most)
		n := nearest(most, 64)
		for want := 1; want <= n; want++ {
			if num := b.make(); num != want {
				t.Fatalf("P21.1: New(%d): Make = %d; want %d", most, num, want)
			}
		}
		b.same()
		if num, e := b.p.Make(); num != 0 || e != api.ErrNfile {
			t.Errorf("P21.1: New(%d): Make of one more = %d, %v", most, num, e)
		}
		b.same()
		for _, num := range []int{n, (n + 1) / 2, 1} {
			if b.add(num, -1, -1); b.make() != num {
				t.Errorf("P21.1: New(%d): Make isn't %d, which is none", most, num)
			}
			b.same()
		}
	}
}

// P21.1: of a pipe that there isn't all calls tell ErrBadf, ahead of their other errors, and nothing.
func TestBadf(t *testing.T) {
	b := start(t, 4)
	for range 3 {
		b.make()
	}
	b.write(2, filled(64))
	b.add(1, -1, -1)
	b.add(3, -1, -1)
	for _, num := range edges {
		if num == 2 {
			continue
		}
		b.sameOne(num)
		for _, n := range edges {
			if list, e := b.p.Read(num, n); list != nil || e != api.ErrBadf {
				t.Errorf("P21.1: Read(%d, %d) = %q, %v", num, n, list, e)
			}
			if e := b.p.Add(num, n, 1); e != api.ErrBadf {
				t.Errorf("P21.1: Add(%d, %d, 1) = %v", num, n, e)
			}
		}
		for _, list := range [][]byte{nil, {}, filled(1), filled(65)} {
			if n, e := b.p.Write(num, list); n != 0 || e != api.ErrBadf {
				t.Errorf("P21.1: Write(%d) of %d bytes = %d, %v", num, len(list), n, e)
			}
		}
		b.same()
	}
	b.drain(2)
}

// P21.1: ends come and go: any of the edges, of a pipe that has none, one, some or all of each kind.
func TestAdd(t *testing.T) {
	for _, readers := range []int{0, 1, 2, 500, 1000} {
		for _, writers := range []int{0, 1, 2, 500, 1000} {
			for _, r := range append(edges, 500, -500) {
				for _, w := range append(edges, 500, -500) {
					b := start(t, 2)
					b.make()
					b.write(1, filled(3))
					b.add(1, readers-1, writers-1)
					b.add(1, r, w)
					b.same()
					if b.m.find(1) != nil {
						b.drain(1)
					}
				}
			}
		}
	}
}

// P21.1: one kind of ends may be too many, or too few, and the other not: then neither has changed.
func TestAddNeither(t *testing.T) {
	for _, x := range [][2]int{{5, -2}, {-2, 5}, {5, 1000}, {1000, 5}, {-1, -2}, {-2, -1}, {math.MaxInt, 0}, {0, math.MinInt}} {
		p := pipe.New(1)
		p.Make()
		e := p.Add(1, x[0], x[1])
		if readers, writers, g := p.Ends(1); e != api.ErrInval || readers != 1 || writers != 1 || g != api.OK {
			t.Errorf("P21.1: Add(%d, %d) = %v, Ends = %d, %d, %v", x[0], x[1], e, readers, writers, g)
		}
	}
}

// P21.1, P21.3: lists of any length go into a pipe that is filled so far, as far as there is room.
func TestWrite(t *testing.T) {
	for _, readers := range []int{0, 1, 2} {
		for _, writers := range []int{0, 1} {
			if readers+writers == 0 {
				continue
			}
			for full := range 65 {
				for _, n := range []int{0, 1, 2, 31, 32, 33, 63 - full, 64 - full, 65 - full, 63, 64, 65, 128, 5000} {
					b := start(t, 1)
					b.make()
					b.write(1, filled(full))
					b.add(1, readers-1, writers-1)
					b.write(1, filled(max(n, 0)))
					b.same()
					b.drain(1)
				}
			}
		}
	}
}

// P21.1: which error Write tells: ErrPipe is ahead of ErrAgain, and no bytes are no error.
func TestWriteErrors(t *testing.T) {
	for _, x := range []struct {
		readers, full, n int
		want             api.Errno
	}{
		{1, 64, 1, api.ErrAgain}, {1, 64, 0, api.OK}, {1, 63, 2, api.OK},
		{0, 64, 1, api.ErrPipe}, {0, 64, 0, api.OK}, {0, 0, 1, api.ErrPipe}, {0, 0, 0, api.OK},
	} {
		b := start(t, 1)
		b.make()
		b.write(1, filled(x.full))
		b.add(1, x.readers-1, 0)
		if e := b.write(1, filled(x.n)); e != x.want {
			t.Errorf("P21.1: Write of %d bytes = %v; want %v", x.n, e, x.want)
		}
		b.same()
	}
}

// P21.1, P21.2: so many are read, or as many as there are.
func TestRead(t *testing.T) {
	for _, writers := range []int{0, 1, 3} {
		for _, readers := range []int{0, 1} {
			if readers+writers == 0 {
				continue
			}
			for full := range 65 {
				for _, n := range append(edges, full-1, full, full+1) {
					b := start(t, 1)
					b.make()
					b.write(1, filled(full))
					b.add(1, readers-1, writers-1)
					b.read(1, n)
					b.same()
					b.drain(1)
				}
			}
		}
	}
}

// P21.1: which error Read tells of an empty pipe.
func TestReadErrors(t *testing.T) {
	for _, x := range []struct {
		writers, full, n int
		want             api.Errno
	}{
		{1, 0, 1, api.ErrAgain}, {1, 0, 0, api.OK}, {1, 0, -1, api.ErrInval}, {1, 1, -1, api.ErrInval}, {1, 1, 2, api.OK},
		{0, 0, 1, api.OK}, {0, 0, 0, api.OK}, {0, 0, -1, api.ErrInval}, {0, 1, 1, api.OK},
	} {
		b := start(t, 1)
		b.make()
		b.write(1, filled(x.full))
		b.add(1, 0, x.writers-1)
		if e := b.read(1, x.n); e != x.want {
			t.Errorf("P21.1: Read(%d) = %v; want %v", x.n, e, x.want)
		}
		b.same()
	}
}

// P21.1: a pipe is gone with its last end, and its bytes with it; as long as it has an end of any kind it stays.
func TestGone(t *testing.T) {
	for _, ends := range [][][2]int{{{-1, -1}}, {{-1, 0}, {0, -1}}, {{0, -1}, {-1, 0}}, {{3, 2}, {-4, 0}, {0, -2}, {0, -1}}} {
		b := start(t, 3)
		b.make()
		b.make()
		b.write(1, filled(10))
		b.read(1, 4)
		for i, x := range ends {
			b.add(1, x[0], x[1])
			b.same()
			if _, e := b.p.Len(1); (e == api.ErrBadf) != (i == len(ends)-1) {
				t.Errorf("P21.1: behind %v: Len = %v", ends[:i+1], e)
			}
		}
		if e := b.add(1, 1, 1); e != api.ErrBadf {
			t.Errorf("P21.1: Add to a pipe that is gone = %v", e)
		}
		if num := b.make(); num != 1 {
			t.Errorf("P21.1: Make = %d", num)
		}
		b.same()
		if e := b.read(1, 5); e != api.ErrAgain {
			t.Errorf("P21.1: Read of a new pipe = %v", e)
		}
		b.write(1, []byte("new"))
		b.drain(1)
	}
}

// P21.2, P21.3: a long row of bytes goes through a pipe in pieces of any length, from whichever of its places on, while ends come and go.
func TestStream(t *testing.T) {
	r := rand.New(rand.NewSource(212))
	p := pipe.New(2)
	p.Make()
	all := make([]byte, 20000)
	r.Read(all)
	written, read, full, empty := 0, 0, 0, 0
	for read < len(all) {
		readers, writers, _ := p.Ends(1)
		p.Add(1, r.Intn(3)-min(1, readers-1), r.Intn(3)-min(1, writers-1))
		piece := all[written:min(len(all), written+r.Intn(100))]
		n, e := p.Write(1, piece)
		if e == api.ErrAgain {
			full++
		}
		if n != min(len(piece), 64-(written-read)) {
			t.Fatalf("P21.3: Write of %d bytes = %d, %v, where %d are on their way", len(piece), n, e, written-read)
		}
		written += n
		b, e := p.Read(1, r.Intn(100))
		if e == api.ErrAgain {
			empty++
		}
		if !bytes.Equal(b, all[read:read+len(b)]) {
			t.Fatalf("P21.2: at %d: Read = %x, %v; want %x", read, b, e, all[read:read+len(b)])
		}
		read += len(b)
		if n, e := p.Len(1); n != written-read || n > 64 || e != api.OK {
			t.Fatalf("P21.3: Len = %d, %v; want %d", n, e, written-read)
		}
	}
	if b, e := p.Read(1, 1); b != nil || e != api.ErrAgain || full == 0 || empty == 0 {
		t.Errorf("P21.2: Read at the end = %q, %v; it was full %d times, empty %d times", b, e, full, empty)
	}
}

// P21.1 to P21.3: any calls, one behind the other.
func TestAny(t *testing.T) {
	r := rand.New(rand.NewSource(211))
	for _, most := range []int{-2, 1, 3, 8, 64, 70} {
		b := start(t, most)
		told := map[api.Errno]int{}
		for range 6000 {
			num := r.Intn(min(len(b.m), 9)+2) - 1
			switch r.Intn(9) {
			case 0:
				b.make()
			case 1:
				readers, writers, _ := b.p.Ends(num)
				told[b.add(num, r.Intn(3)-readers, r.Intn(3)-writers)]++
			case 2:
				told[b.add(num, edges[r.Intn(len(edges))], edges[r.Intn(len(edges))])]++
			case 3, 4, 5:
				told[b.write(num, filled(r.Intn(80)))]++
			default:
				told[b.read(num, r.Intn(80)-3)]++
			}
			b.same()
		}
		for _, e := range []api.Errno{api.OK, api.ErrInval, api.ErrBadf, api.ErrAgain, api.ErrPipe} {
			if told[e] == 0 {
				t.Errorf("New(%d): %v was never told: the test is in vain", most, e)
			}
		}
	}
}

// Memory: what is handed in stays as it is, its spare room too, and isn't kept; what is answered is new.
func TestMemory(t *testing.T) {
	p := pipe.New(1)
	p.Make()
	list := []byte("abcdefgh")
	for range 3 {
		p.Write(1, list[:4])
	}
	if string(list) != "abcdefgh" {
		t.Errorf("P21.1: Write changed what it was handed: %q", list)
	}
	clear(list)
	first, _ := p.Read(1, 4)
	second, _ := p.Read(1, 4)
	clear(first[:cap(first)])
	p.Write(1, []byte("wxyz"))
	if third, _ := p.Read(1, 9); string(second) != "abcd" || string(third) != "abcdwxyz" {
		t.Errorf("P21.2: Read = %q, %q", second, third)
	}
}
