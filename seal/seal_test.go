package seal_test

import (
	"bytes"
	"hash/crc32"
	"math/rand"
	"testing"

	"drumlin/api"
	"drumlin/num"
	"drumlin/seal"
)

func marked(size int) []byte {
	b := make([]byte, size)
	for i := range b {
		b[i] = byte(200 + i)
	}
	return b
}

// sums puts the right sum behind what stands in a sector, whatever that is.
func sums(s api.Sector) api.Sector {
	num.Put(s[:], 124, 4, uint64(crc32.ChecksumIEEE(s[:124])))
	return s
}

// laid is a sector as the document has it, part by part.
func laid(kind byte, body []byte) api.Sector {
	s := api.Sector{0xd7, 0x4c, kind, byte(len(body))}
	copy(s[4:124], body)
	return sums(s)
}

func refused(t *testing.T, s api.Sector, what string) {
	t.Helper()
	if kind, body, e := seal.Open(s); kind != 0 || body != nil || e != api.ErrForm {
		t.Errorf("%s: Open = %d, % x, %v", what, kind, body, e)
	}
	if seal.Is(s, s[2]) || seal.Is(s, 0) {
		t.Errorf("%s: Is = true", what)
	}
}

// P2.1: the document's examples, and others of the same sum.
func TestCrc(t *testing.T) {
	known := map[string]uint32{"": 0, "123456789": 0xcbf43926, "a": 0xe8b7be43, "\x00": 0xd202ef8d, "\xff\xff\xff\xff": 0xffffffff, "The quick brown fox jumps over the lazy dog": 0x414fa339}
	for text, want := range known {
		if got := seal.Crc([]byte(text)...); got != want {
			t.Errorf("P2.1: Crc(%q) = %08x, want %08x", text, got, want)
		}
	}
	if got := seal.Crc(); got != 0 {
		t.Errorf("P2.1: Crc of nothing = %08x", got)
	}
	random := rand.New(rand.NewSource(2))
	for size := range 600 {
		b := make([]byte, size)
		random.Read(b)
		if got, want := seal.Crc(b...), crc32.ChecksumIEEE(b); got != want {
			t.Fatalf("P2.1: Crc(% x) = %08x, want %08x", b, got, want)
		}
	}
}

// P2.2: of each kind and each size a sector is laid as the document has it, and opened again.
func TestMakeOpen(t *testing.T) {
	for kind := 1; kind < 256; kind++ {
		for size := 0; size <= api.BodySize; size++ {
			body := marked(size)
			s, e := seal.Make(byte(kind), body)
			if e != api.OK || s != laid(byte(kind), body) {
				t.Fatalf("P2.2: Make(%d, %d bytes) = % x, %v", kind, size, s, e)
			}
			if k, b, e := seal.Open(s); k != byte(kind) || !bytes.Equal(b, body) || e != api.OK {
				t.Fatalf("P2.2: Open = %d, % x, %v; want %d, % x", k, b, e, kind, body)
			}
		}
	}
}

// P2.2: a body of 120 bytes may be, one of 121 not; nor a kind of 0.
func TestMakeErrors(t *testing.T) {
	if _, e := seal.Make(255, make([]byte, 120)); e != api.OK {
		t.Errorf("P2.2: Make of 120 bytes: %v", e)
	}
	for _, size := range []int{121, 122, 124, 125, 128, 129, 255, 256, 257, 300, 376, 1 << 16} {
		if s, e := seal.Make(1, marked(size)); s != (api.Sector{}) || e != api.ErrInval {
			t.Errorf("P2.2: Make of %d bytes: % x, %v", size, s, e)
		}
	}
	for _, size := range []int{0, 1, 120, 121} {
		if s, e := seal.Make(0, marked(size)); s != (api.Sector{}) || e != api.ErrInval {
			t.Errorf("P2.2: Make of the kind 0, %d bytes: % x, %v", size, s, e)
		}
	}
}

// P2.2: bytes of the body are kept as they are, noughts at its end too.
func TestBodies(t *testing.T) {
	for _, body := range [][]byte{nil, {}, {0}, {0, 0, 0}, []byte("a\x00"), make([]byte, 120)} {
		s, e := seal.Make(9, body)
		if e != api.OK {
			t.Fatalf("P2.2: Make(% x): %v", body, e)
		}
		if k, b, e := seal.Open(s); k != 9 || !bytes.Equal(b, body) || e != api.OK {
			t.Errorf("P2.2: Open of (% x) = %d, % x, %v", body, k, b, e)
		}
	}
}

// P2.2: what Make never makes is refused, also where the sum is right.
func TestOpenErrors(t *testing.T) {
	refused(t, api.Sector{}, "P2.2: noughts")
	refused(t, sums(api.Sector{}), "P2.2: noughts with a sum")
	for size := 121; size < 256; size++ {
		s := laid(3, marked(120))
		s[3] = byte(size)
		refused(t, sums(s), "P2.2: a body of more than 120 bytes")
		s = laid(3, nil)
		s[3] = byte(size)
		refused(t, sums(s), "P2.2: more than 120 noughts")
	}
	refused(t, laid(0, []byte("hi")), "P2.2: the kind 0")
	refused(t, laid(0, nil), "P2.2: the kind 0, no body")
	for _, at := range []int{0, 1} {
		for n := range 256 {
			s := laid(3, []byte("hi"))
			if s[at] == byte(n) {
				continue
			}
			s[at] = byte(n)
			refused(t, sums(s), "P2.2: another mark")
		}
	}
	for at := 6; at < 124; at++ {
		s := laid(3, []byte("hi"))
		s[at] = 1
		refused(t, sums(s), "P2.2: a byte behind the body")
	}
}

// P2.2: the sum stands with its lowest byte first, and is of all that is ahead of it.
func TestSumForm(t *testing.T) {
	s := laid(3, []byte("hi"))
	s[124], s[125], s[126], s[127] = s[127], s[126], s[125], s[124]
	refused(t, s, "P2.2: the highest byte first")
	s = laid(3, []byte("hi"))
	for i := 124; i < 128; i++ {
		s[i] = ^s[i]
	}
	refused(t, s, "P2.2: the sum turned")
}

// P2.2: Is holds of its own kind alone.
func TestIs(t *testing.T) {
	for kind := 1; kind < 256; kind++ {
		s, _ := seal.Make(byte(kind), []byte("hi"))
		for asked := range 256 {
			if got := seal.Is(s, byte(asked)); got != (asked == kind) {
				t.Errorf("P2.2: of the kind %d: Is(%d) = %v", kind, asked, got)
			}
		}
	}
}

// P2.3: each byte, and each other value of it.
func TestOneByte(t *testing.T) {
	for _, size := range []int{0, 2, 119, 120} {
		whole, _ := seal.Make(7, marked(size))
		for at := range len(whole) {
			for by := 1; by < 256; by++ {
				s := whole
				s[at] ^= byte(by)
				refused(t, s, "P2.3: a byte is another one")
				if seal.Is(s, 7) {
					t.Errorf("P2.3: byte %d: Is = true", at)
				}
			}
		}
	}
}

// P2.4: what is handed in stays as it is, and isn't kept; answers share nothing.
func TestMemory(t *testing.T) {
	room := marked(140)
	seal.Crc(room[:40]...)
	s, _ := seal.Make(5, room[8:20])
	seal.Make(5, room[8:129])
	if !bytes.Equal(room, marked(140)) {
		t.Errorf("P2.4: what was handed in is now % x", room)
	}
	clear(room)
	_, one, _ := seal.Open(s)
	_, two, _ := seal.Open(s)
	if !bytes.Equal(one, marked(140)[8:20]) {
		t.Errorf("P2.4: the body is now % x", one)
	}
	clear(one[:cap(one)])
	if !bytes.Equal(two, marked(140)[8:20]) || !seal.Is(s, 5) {
		t.Errorf("P2.4: answers of Open share memory")
	}
}

// P1: sectors of anything are answered; and what is opened is made again the same.
func TestAnySector(t *testing.T) {
	random := rand.New(rand.NewSource(3))
	for i := range 20000 {
		var s api.Sector
		random.Read(s[:])
		if i%2 == 0 {
			s[0], s[1], s[3] = 0xd7, 0x4c, s[3]%130
			s = sums(s)
		}
		kind, body, e := seal.Open(s)
		if e == api.OK {
			if again, e := seal.Make(kind, body); e != api.OK || again != s {
				t.Errorf("P2.2: Open of % x = %d, % x; Make of these % x", s, kind, body, again)
			}
		} else if kind != 0 || body != nil || e != api.ErrForm {
			t.Errorf("P1: Open of % x = %d, % x, %v", s, kind, body, e)
		}
	}
}
