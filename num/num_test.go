package num_test

import (
	"bytes"
	"math"
	"math/rand"
	"testing"

	"drumlin/api"
	"drumlin/num"
)

// ends are numbers that stand for all: the edges of what may be, and those of int.
var ends = []int{math.MinInt, math.MinInt + 1, math.MinInt32, -129, -9, -1, 0, 1, 2, 4, 7, 8, 9, 10, 63, 64, 119, 120, 121, 124, 127, 128, 129, 255, 256, math.MaxInt32, math.MaxInt - 8, math.MaxInt - 1, math.MaxInt}

// values are numbers of all widths: of each the greatest, the least that is too great, and one whose bytes are all unlike.
func values() []uint64 {
	list := []uint64{0, 1, 258, 0x0807060504030201, math.MaxUint64}
	for width := range 8 {
		bits := 8 * width
		list = append(list, 1<<bits, 1<<bits-1, 1<<bits|1)
	}
	return list
}

// small tells whether n has no more than 8 times width bits, by another way than the package's.
func small(n uint64, width int) bool {
	for range width {
		n /= 256
	}
	return n == 0
}

func marked(size int) []byte {
	b := make([]byte, size)
	for i := range b {
		b[i] = byte(200 + i)
	}
	return b
}

// P1.1: just the bytes from at on are the number, the lowest first; what may not be is refused, and changes nothing.
func TestPut(t *testing.T) {
	for _, size := range []int{0, 1, 2, 7, 8, 9, 20} {
		for _, at := range append(ends, size-8, size-2, size-1, size, size+1) {
			for width := -1; width <= 10; width++ {
				for _, n := range values() {
					checkPut(t, size, at, width, n)
				}
			}
		}
	}
}

func checkPut(t *testing.T, size, at, width int, n uint64) {
	t.Helper()
	b, want, e := marked(size), marked(size), api.ErrInval
	if width >= 1 && width <= 8 && at >= 0 && at < size && at+width <= size && small(n, width) {
		e = api.OK
		for i, rest := 0, n; i < width; i, rest = i+1, rest/256 {
			want[at+i] = byte(rest % 256)
		}
	}
	if got := num.Put(b, at, width, n); got != e || !bytes.Equal(b, want) {
		t.Errorf("P1.1: Put(%d bytes, %d, %d, %#x) = %v, % x; want %v, % x", size, at, width, n, got, b, e, want)
	}
	if e != api.OK {
		return
	}
	if got, e := num.Get(b, at, width); e != api.OK || got != n {
		t.Errorf("P1.1: Get(%d bytes, %d, %d) = %#x, %v; want %#x", size, at, width, got, e, n)
	}
}

// P1.1: the document's example.
func TestPutExample(t *testing.T) {
	b := make([]byte, 4)
	if e := num.Put(b, 1, 2, 258); e != api.OK || !bytes.Equal(b, []byte{0, 2, 1, 0}) {
		t.Errorf("P1.1: Put = %v, % x", e, b)
	}
}

// P1.1: of a number that is too great nothing is written, not even its lowest bytes.
func TestPutTooGreat(t *testing.T) {
	for width := 1; width < 8; width++ {
		b, n := marked(9), uint64(1)<<(8*width)
		if e := num.Put(b, 0, width, n); e != api.ErrInval || !bytes.Equal(b, marked(9)) {
			t.Errorf("P1.1: Put(width %d, %#x) = %v, % x", width, n, e, b)
		}
		if e := num.Put(b, 0, width, n-1); e != api.OK {
			t.Errorf("P1.1: Put(width %d, %#x) = %v", width, n-1, e)
		}
	}
	if e := num.Put(marked(8), 0, 8, math.MaxUint64); e != api.OK {
		t.Errorf("P1.1: Put of the greatest number = %v", e)
	}
}

// P1.1: Get takes just the bytes that are there, and tells 0 beside an error.
func TestGet(t *testing.T) {
	for _, size := range []int{0, 1, 2, 7, 8, 9, 20} {
		b := marked(size)
		for _, at := range append(ends, size-8, size-2, size-1, size, size+1) {
			for width := -1; width <= 10; width++ {
				want, e := uint64(0), api.ErrInval
				if width >= 1 && width <= 8 && at >= 0 && at < size && at+width <= size {
					e = api.OK
					for i := at + width; i > at; i-- {
						want = want*256 + uint64(b[i-1])
					}
				}
				if n, got := num.Get(b, at, width); n != want || got != e {
					t.Errorf("P1.1: Get(%d bytes, %d, %d) = %#x, %v; want %#x, %v", size, at, width, n, got, want, e)
				}
			}
		}
		if !bytes.Equal(b, marked(size)) {
			t.Errorf("P1.4: Get changed its bytes: % x", b)
		}
	}
}

// P1.1: bytes that are nil are none.
func TestNil(t *testing.T) {
	if e := num.Put(nil, 0, 1, 0); e != api.ErrInval {
		t.Errorf("P1.1: Put(nil) = %v", e)
	}
	if n, e := num.Get(nil, 0, 1); n != 0 || e != api.ErrInval {
		t.Errorf("P1.1: Get(nil) = %d, %v", n, e)
	}
}

// P1.2: what is written stands one behind the other, with noughts behind it.
func TestWriter(t *testing.T) {
	var w num.Writer
	if s, e := w.Sector(); e != api.OK || s != (api.Sector{}) {
		t.Errorf("P1.2: the zero Writer: % x, %v", s, e)
	}
	w.Num(4, 7)
	w.Bytes(5, []byte("ab"))
	w.Bytes(0, nil)
	w.Num(1, 9)
	w.Bytes(3, []byte("cde"))
	w.Bytes(2, nil)
	w.Num(8, math.MaxUint64)
	var want api.Sector
	copy(want[:], "\x07\x00\x00\x00ab\x00\x00\x00\x09cde\x00\x00\xff\xff\xff\xff\xff\xff\xff\xff")
	for range 2 {
		if s, e := w.Sector(); e != api.OK || s != want {
			t.Errorf("P1.2: Sector = % x, %v; want % x", s, e, want)
		}
	}
	w.Num(2, 258)
	want[23], want[24] = 2, 1
	if s, e := w.Sector(); e != api.OK || s != want {
		t.Errorf("P1.2: behind Sector more may be written: % x, %v; want % x", s, e, want)
	}
}

// P1.2: a sector is full with 128 bytes, and no sooner.
func TestWriterFull(t *testing.T) {
	full := marked(api.SectorSize)
	var w num.Writer
	w.Bytes(api.SectorSize, full)
	w.Bytes(0, []byte{})
	if s, e := w.Sector(); e != api.OK || !bytes.Equal(s[:], full) {
		t.Errorf("P1.2: 128 bytes: % x, %v", s, e)
	}
	w.Num(1, 0)
	if s, e := w.Sector(); e != api.ErrInval || s != (api.Sector{}) {
		t.Errorf("P1.2: 129 bytes: % x, %v", s, e)
	}
	var v num.Writer
	v.Bytes(120, nil)
	v.Num(8, 1)
	if s, e := v.Sector(); e != api.OK || s[120] != 1 {
		t.Errorf("P1.2: a number at the end: % x, %v", s, e)
	}
}

// P1.2, P1.3: each wrong part is told as ErrInval, and all that is right behind it changes nothing of that.
func TestWriterErrors(t *testing.T) {
	wrong := map[string]func(w *num.Writer){
		"width below 0":         func(w *num.Writer) { w.Num(-1, 0) },
		"width 0":               func(w *num.Writer) { w.Num(0, 0) },
		"width 9":               func(w *num.Writer) { w.Num(9, 0) },
		"number too great":      func(w *num.Writer) { w.Num(1, 256) },
		"no room for a number":  func(w *num.Writer) { w.Bytes(123, nil); w.Num(4, 0) },
		"size below 0":          func(w *num.Writer) { w.Bytes(-1, nil) },
		"least size":            func(w *num.Writer) { w.Bytes(math.MinInt, []byte("a")) },
		"size below the bytes'": func(w *num.Writer) { w.Bytes(1, []byte("ab")) },
		"size 0 of bytes":       func(w *num.Writer) { w.Bytes(0, []byte("a")) },
		"size beyond":           func(w *num.Writer) { w.Bytes(127, nil) },
		"greatest size":         func(w *num.Writer) { w.Bytes(math.MaxInt, nil) },
		"more bytes than fit":   func(w *num.Writer) { w.Bytes(129, make([]byte, 129)) },
	}
	for name, do := range wrong {
		var w num.Writer
		w.Num(2, 1)
		do(&w)
		for range 2 {
			if s, e := w.Sector(); e != api.ErrInval || s != (api.Sector{}) {
				t.Errorf("P1.3: %s: % x, %v", name, s, e)
			}
			w.Num(1, 1)
			w.Bytes(1, []byte("a"))
		}
	}
}

// P1.2: numbers and bytes are read one behind the other.
func TestReader(t *testing.T) {
	var s api.Sector
	copy(s[:], "\x07\x00\x00\x00ab\x00\x00\x00\x09")
	r := num.Read(s)
	if n := r.Left(); n != 128 {
		t.Errorf("P1.2: Left at first = %d", n)
	}
	if n := r.Num(4); n != 7 || r.Left() != 124 {
		t.Errorf("P1.2: Num = %d, left %d", n, r.Left())
	}
	if b := r.Bytes(5); string(b) != "ab\x00\x00\x00" || r.Left() != 119 {
		t.Errorf("P1.2: Bytes = %q, left %d", b, r.Left())
	}
	if b := r.Bytes(0); len(b) != 0 || r.Left() != 119 {
		t.Errorf("P1.2: Bytes(0) = %q, left %d", b, r.Left())
	}
	if e := r.Close(); e != api.ErrForm {
		t.Errorf("P1.2: Close ahead of a 9 = %v", e)
	}
	if n := r.Num(1); n != 9 || r.Close() != api.OK {
		t.Errorf("P1.2: Num = %d, Close behind all = %v", n, r.Close())
	}
	if b := r.Bytes(118); !bytes.Equal(b, make([]byte, 118)) || r.Left() != 0 || r.Close() != api.OK {
		t.Errorf("P1.2: the noughts behind: %x, left %d, %v", b, r.Left(), r.Close())
	}
	if b := r.Bytes(0); len(b) != 0 || r.Close() != api.OK {
		t.Errorf("P1.2: no bytes of none: %x, %v", b, r.Close())
	}
}

// P1.2: each byte that is left counts for Close, the last one too, and none that was read.
func TestReaderClose(t *testing.T) {
	for i := range api.SectorSize {
		var s api.Sector
		s[i] = 128
		r := num.Read(s)
		r.Bytes(i)
		if e := r.Close(); e != api.ErrForm {
			t.Errorf("P1.2: byte %d is left: Close = %v", i, e)
		}
		r.Num(1)
		if e := r.Close(); e != api.OK {
			t.Errorf("P1.2: byte %d was read: Close = %v", i, e)
		}
	}
}

// P1.2, P1.3: what isn't there is answered 0, or nil, and takes nothing; so is all that is asked behind it; ErrInval goes ahead of ErrForm.
func TestReaderErrors(t *testing.T) {
	full := api.Sector(marked(api.SectorSize))
	type ask struct {
		ahead, width, size int
		bytes              bool
	}
	wrong := []ask{{width: -1}, {width: 0}, {width: 9}, {width: math.MinInt}, {width: math.MaxInt}, {ahead: 1, width: math.MaxInt}, {ahead: 121, width: 8}, {ahead: 128, width: 1}, {size: -1, bytes: true}, {size: math.MinInt, bytes: true}, {size: 129, bytes: true}, {size: math.MaxInt, bytes: true}, {ahead: 1, size: math.MaxInt, bytes: true}, {ahead: 100, size: 29, bytes: true}, {ahead: 128, size: 1, bytes: true}}
	for _, x := range wrong {
		r := num.Read(full)
		r.Bytes(x.ahead)
		if x.bytes {
			if b := r.Bytes(x.size); b != nil {
				t.Errorf("P1.2: %+v: % x", x, b)
			}
		} else if n := r.Num(x.width); n != 0 {
			t.Errorf("P1.2: %+v: %d", x, n)
		}
		for range 2 {
			if n, b := r.Num(1), r.Bytes(1); n != 0 || b != nil || r.Bytes(0) != nil {
				t.Errorf("P1.3: %+v: behind it %d, % x", x, n, b)
			}
			if e := r.Close(); e != api.ErrInval || r.Left() != 128-x.ahead {
				t.Errorf("P1.3: %+v: Close = %v, left %d", x, e, r.Left())
			}
		}
	}
	r := num.Read(api.Sector{})
	r.Num(9)
	if e := r.Close(); e != api.ErrInval {
		t.Errorf("P1.3: of noughts: Close = %v", e)
	}
}

// part is one thing that is written and read.
type part struct {
	width int
	n     uint64
	size  int
	b     []byte
}

// parts are such as fill a sector, or nearly so.
func parts(r *rand.Rand) []part {
	var list []part
	for left := api.SectorSize; left > r.Intn(20); {
		if width := 1 + r.Intn(8); r.Intn(2) == 0 && width <= left {
			list = append(list, part{width: width, n: r.Uint64() >> (64 - 8*width)})
			left -= width
			continue
		}
		size := r.Intn(min(left, 12) + 1)
		b := make([]byte, r.Intn(size+1))
		r.Read(b)
		list = append(list, part{size: size, b: b})
		left -= size
	}
	return list
}

// P1.2: what was written is read, and what was read makes the same sector when it is written.
func TestRoundTrip(t *testing.T) {
	random := rand.New(rand.NewSource(1))
	for range 2000 {
		list := parts(random)
		var w, again num.Writer
		for _, x := range list {
			if x.width > 0 {
				w.Num(x.width, x.n)
			} else {
				w.Bytes(x.size, x.b)
			}
		}
		s, e := w.Sector()
		r := num.Read(s)
		for _, x := range list {
			if x.width > 0 {
				n := r.Num(x.width)
				again.Num(x.width, n)
				if n != x.n {
					t.Fatalf("P1.2: %v: Num = %d", x, n)
				}
				continue
			}
			b := r.Bytes(x.size)
			again.Bytes(x.size, b)
			if want := append(bytes.Clone(x.b), make([]byte, x.size-len(x.b))...); !bytes.Equal(b, want) {
				t.Fatalf("P1.2: %v: Bytes = % x", x, b)
			}
		}
		if s2, e2 := again.Sector(); e != api.OK || e2 != api.OK || s2 != s || r.Close() != api.OK {
			t.Fatalf("P1.2: %v: %v, %v, %v, % x, then % x", list, e, e2, r.Close(), s, s2)
		}
	}
}

// P1.4: what is handed in stays as it is, its spare room too; what is answered is new memory.
func TestMemory(t *testing.T) {
	room := marked(40)
	b := room[8:12]
	num.Put(b, 3, 2, 0)
	num.Put(b, 4, 1, 0)
	num.Get(b, 0, 4)
	var w num.Writer
	w.Bytes(20, b)
	if !bytes.Equal(room, marked(40)) {
		t.Errorf("P1.4: what was handed in is now % x", room)
	}
	clear(room)
	s, _ := w.Sector()
	if !bytes.Equal(s[:4], marked(40)[8:12]) || s[4] != 0 {
		t.Errorf("P1.4: the Writer kept what it was handed: % x", s)
	}
	s[0] = 1
	if again, _ := w.Sector(); again[0] != marked(40)[8] {
		t.Errorf("P1.4: an answer of Sector is shared")
	}
	full := api.Sector(marked(api.SectorSize))
	r := num.Read(full)
	one := r.Bytes(4)
	two := r.Bytes(4)
	clear(one[:cap(one)])
	if !bytes.Equal(two, full[4:8]) || r.Num(1) != uint64(full[8]) || full[0] != 200 {
		t.Errorf("P1.4: answers of Bytes share memory: % x", two)
	}
}

// P1: each call ends, whatever it is given, and none panics.
func TestNoPanic(t *testing.T) {
	for _, at := range ends {
		for _, width := range ends {
			for _, size := range []int{0, 1, 128, 300} {
				num.Put(make([]byte, size), at, width, 1)
				num.Get(make([]byte, size), at, width)
			}
			w, r := num.Writer{}, num.Read(api.Sector{1})
			w.Bytes(at, make([]byte, 3))
			w.Num(width, math.MaxUint64)
			w.Bytes(width, nil)
			w.Sector()
			r.Bytes(at)
			r.Num(width)
			r.Bytes(width)
			if n := r.Left(); n < 0 || n > 128 {
				t.Errorf("P1: behind %d and %d, Left = %d", at, width, n)
			}
			r.Close()
		}
	}
}
