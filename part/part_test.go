package part_test

import (
	"bytes"
	"math"
	"testing"

	"drumlin/api"
	"drumlin/part"
)

// thing has each kind of number, a flag, and a list whose length stands ahead of it.
type thing struct {
	small byte
	short uint32
	long  uint64
	whole int
	flag  bool
	list  []int
}

func layThing(p part.Port, x *thing) {
	part.Num(p, 1, &x.small)
	part.Num(p, 2, &x.short)
	part.Num(p, 8, &x.long)
	part.Num(p, 3, &x.whole)
	part.Flag(p, &x.flag)
	count := len(x.list)
	part.Num(p, 1, &count)
	x.list = part.Each(p, x.list, func(i int) bool { return i < count }, layPair)
}

func layPair(p part.Port, x *int) {
	part.Num(p, 2, x)
}

var (
	example = thing{1, 0x302, math.MaxUint64, 0x60504, true, []int{0x0807, 0xffff}}
	exact   = []byte{1, 2, 3, 255, 255, 255, 255, 255, 255, 255, 255, 4, 5, 6, 1, 2, 7, 8, 255, 255}
)

func equal(x, y thing) bool {
	if len(x.list) != len(y.list) {
		return false
	}
	for i := range x.list {
		if x.list[i] != y.list[i] {
			return false
		}
	}
	return x.small == y.small && x.short == y.short && x.long == y.long && x.whole == y.whole && x.flag == y.flag
}

// P5.1: what is written by a function is read by it.
func TestWriteRead(t *testing.T) {
	b, e := part.Write(example, layThing)
	if !bytes.Equal(b, exact) || e != api.OK {
		t.Errorf("P5.1: Write = % x, %v", b, e)
	}
	if x := part.Read(exact, layThing); !equal(x, example) {
		t.Errorf("P5.1: Read = %+v", x)
	}
	if b, e := part.Write(thing{}, layThing); !bytes.Equal(b, make([]byte, 16)) || e != api.OK {
		t.Errorf("P5.1: Write of noughts = % x, %v", b, e)
	}
}

// P5.3: a number that has no room is told, wherever it stands.
func TestWriteErrors(t *testing.T) {
	for i, change := range []func(x *thing){func(x *thing) { x.short = 65536 }, func(x *thing) { x.whole = -1 }, func(x *thing) { x.whole = 1 << 24 }, func(x *thing) { x.list = []int{1, -1, 1} }, func(x *thing) { x.list = make([]int, 256) }} {
		x := example
		change(&x)
		if b, e := part.Write(x, layThing); b != nil || e != api.ErrInval {
			t.Errorf("P5.3: %d: Write = % x, %v", i, b, e)
		}
	}
}

// P5.2: of bytes that are cut what isn't whole is 0; what is too much is left.
func TestReadCut(t *testing.T) {
	for n := range len(exact) {
		x := part.Read(exact[:n], layThing)
		if n < 11 && x.long != 0 || n < 14 && x.whole != 0 || n < 18 && len(x.list) > 0 && x.list[0] != 0 || n < 20 && len(x.list) == 2 && x.list[1] != 0 {
			t.Errorf("P5.2: Read of %d bytes = %+v", n, x)
		}
	}
	cut := append([]byte(nil), exact[:4]...) // its long number isn't whole: the byte that is left of it is none of the next one's
	if x := part.Read(cut, layThing); x.small != 1 || x.short != 0x302 || x.whole != 0 || x.flag {
		t.Errorf("P5.2: Read = %+v", x)
	}
	if x := part.Read(append(append([]byte(nil), exact...), 9, 9), layThing); !equal(x, example) {
		t.Errorf("P5.2: Read of more = %+v", x)
	}
}

// P5.2: items up to the end; the last one may not be whole.
func TestRest(t *testing.T) {
	for n := range 9 {
		list := part.Read(exact[:n], part.Rest(layPair))
		if len(list) != (n+1)/2 {
			t.Errorf("P5.2: Rest of %d bytes = %v", n, list)
		}
		b, e := part.Write(list, part.Rest(layPair))
		if e != api.OK || len(b) != 2*len(list) || n%2 == 0 && !bytes.Equal(b, exact[:n]) {
			t.Errorf("P5.1: Write of %v = % x, %v", list, b, e)
		}
	}
}

// P5.4: what is handed in stays as it is, and is shared with nothing.
func TestKept(t *testing.T) {
	list := []int{1, 2, 3, 4}
	seen := part.Each(silent{}, list[:2], func(i int) bool { return i < 3 }, func(_ part.Port, x *int) { *x += 10 })
	if list[0] != 1 || list[1] != 2 || list[2] != 3 || len(seen) != 3 || seen[0] != 11 || seen[2] != 10 {
		t.Errorf("P5.4: %v, %v", list, seen)
	}
	b := append([]byte(nil), exact...)
	x := part.Read(b, layThing)
	if clear(b); !equal(x, example) {
		t.Errorf("P5.4: %+v", x)
	}
}

// silent is a port that nothing goes through.
type silent struct{}

func (silent) Num(int, uint64) uint64 { return 0 }
func (silent) Left() int              { return 0 }
