package fs_test

import (
	"bytes"
	"math"
	"math/rand"
	"strings"
	"testing"

	"drumlin/api"
	"drumlin/fs"
)

// packed: the bytes of items as the document has them.
func packed(items []fs.Item) []byte {
	var b []byte
	for _, x := range items {
		kind, rest := x.Kind, string(x.Data)
		if x.Link != "" {
			kind, rest = 3, x.Link
		}
		b = append(b, byte(kind), byte(len(x.Path)), byte(len(x.Path)>>8))
		b = append(b, x.Path...)
		n := len(rest)
		b = append(b, byte(n), byte(n>>8), byte(n>>16), byte(n>>24))
		b = append(b, rest...)
	}
	return b
}

// P19.3: each byte is where it should be, and back.
func TestPack(t *testing.T) {
	long := strings.Repeat("p", 65535)
	for _, items := range [][]fs.Item{
		nil,
		{},
		{{Path: "/a", Kind: api.File, Data: []byte("hi")}},
		{{Path: "", Kind: api.File}},
		{{Path: "", Kind: api.Dir}},
		{{Path: "/d", Kind: api.Dir}, {Path: "/d/f", Kind: api.File, Data: []byte{0, 1, 255}}, {Path: "/g", Kind: api.File, Link: "/d/f"}},
		{{Path: "no path\x00//..", Kind: api.File, Link: "\x00"}, {Path: "no path\x00//..", Kind: api.Dir, Data: []byte{}}},
		{{Path: long, Kind: api.Dir}, {Path: "/" + long[1:], Kind: api.File, Link: long + long}},
		{{Path: long[:255], Kind: api.File, Data: bytes.Repeat([]byte{7}, 255)}, {Path: long[:256], Kind: api.File, Data: bytes.Repeat([]byte{7}, 256)}},
		{{Path: "/much", Kind: api.File, Data: bytes.Repeat([]byte("much"), 1<<22+1)}},
	} {
		b, e := fs.Pack(items...)
		if e != api.OK || !bytes.Equal(b, packed(items)) {
			t.Errorf("P19.3: Pack of %d items = %d bytes, %v", len(items), len(b), e)
		}
		back, e := fs.Unpack(b)
		if e != api.OK || !fs.Same(back, items) || len(items) == 0 && back != nil {
			t.Errorf("P19.3: Unpack of %d items = %d, %v", len(items), len(back), e)
		}
	}
}

// P19.3: what can't be packed, wherever it stands.
func TestPackRefused(t *testing.T) {
	long := strings.Repeat("p", 65536)
	good := fs.Item{Path: "/a", Kind: api.File, Data: []byte("hi")}
	for _, x := range []fs.Item{
		{},
		{Path: "/a"},
		{Path: "/a", Kind: 3},
		{Path: "/a", Kind: 3, Link: "/b"},
		{Path: "/a", Kind: -1},
		{Path: "/a", Kind: 257},
		{Path: "/a", Kind: math.MaxInt},
		{Path: "/a", Kind: math.MinInt},
		{Path: "/a", Kind: 0, Link: "/b"},
		{Path: long, Kind: api.File},
		{Path: long, Kind: api.Dir},
		{Path: long + long, Kind: api.File, Link: "/b"},
		{Path: "/a", Kind: api.File, Link: "/b", Data: []byte("x")},
		{Path: "/a", Kind: api.Dir, Link: "/b"},
		{Path: "/a", Kind: api.Dir, Data: []byte("x")},
		{Path: "/a", Kind: api.Dir, Link: "/b", Data: []byte("x")},
	} {
		for _, items := range [][]fs.Item{{x}, {x, good}, {good, x}, {good, x, good}} {
			if b, e := fs.Pack(items...); b != nil || e != api.ErrInval {
				t.Errorf("P19.3: Pack of an item of the kind %d = %q, %v", x.Kind, b, e)
			}
		}
	}
}

// unpacks: either it is just what Pack makes of what is answered, or ErrForm, and nothing.
func unpacks(t *testing.T, b []byte) bool {
	t.Helper()
	items, e := fs.Unpack(b)
	if e == api.OK {
		made, f := fs.Pack(items...)
		if f != api.OK || !bytes.Equal(made, b) {
			t.Fatalf("P19.3: Unpack(%q) = %q", b, texts(items))
		}
		return true
	}
	if items != nil || e != api.ErrForm {
		t.Fatalf("P19.3: Unpack(%q) = %q, %v", b, texts(items), e)
	}
	return false
}

// P19.3: what Pack never makes.
func TestUnpackRefused(t *testing.T) {
	for what, b := range map[string]string{
		"a kind alone":               "\x01",
		"half a length":              "\x01\x02",
		"no path":                    "\x01\x02\x00",
		"half a path":                "\x01\x02\x00/",
		"no length":                  "\x01\x02\x00/a",
		"half a length of bytes":     "\x01\x02\x00/a\x02\x00\x00",
		"no bytes":                   "\x01\x02\x00/a\x02\x00\x00\x00",
		"too few bytes":              "\x01\x02\x00/a\x02\x00\x00\x00h",
		"too many bytes":             "\x01\x02\x00/a\x02\x00\x00\x00hi!",
		"far too many bytes to come": "\x01\x02\x00/a\xff\xff\xff\xffhi",
		"a path far too long":        "\x01\xff\xff/a\x02\x00\x00\x00hi",
		"no kind":                    "\x00\x02\x00/a\x00\x00\x00\x00",
		"noughts":                    "\x00\x00\x00\x00\x00\x00\x00",
		"another kind":               "\x04\x02\x00/a\x00\x00\x00\x00",
		"a kind far off":             "\xff\x02\x00/a\x00\x00\x00\x00",
		"a link to nothing":          "\x03\x02\x00/a\x00\x00\x00\x00",
		"a directory with bytes":     "\x02\x02\x00/a\x01\x00\x00\x00x",
		"something behind":           "\x02\x02\x00/a\x00\x00\x00\x00\x00",
		"the second one cut off":     "\x02\x02\x00/a\x00\x00\x00\x00\x02\x02\x00/b\x00\x00\x00",
	} {
		if unpacks(t, []byte(b)) {
			t.Errorf("P19.3: %s: Unpack(%q) is answered", what, b)
		}
	}
	for _, b := range []string{"\x02\x02\x00/a\x00\x00\x00\x00", "\x03\x00\x00\x01\x00\x00\x00x", "\x01\x00\x00\x00\x00\x00\x00"} {
		if !unpacks(t, []byte(b)) {
			t.Errorf("P19.3: Unpack(%q) is refused", b)
		}
	}
}

// someItems: any that can be packed.
func someItems(r *rand.Rand) []fs.Item {
	some := func(most int) []byte {
		b := make([]byte, r.Intn(most))
		for i := range b {
			b[i] = byte(r.Intn(5)) * 51
		}
		return b
	}
	var items []fs.Item
	for range r.Intn(5) {
		x := fs.Item{Path: string(some(6)), Kind: api.File}
		switch r.Intn(3) {
		case 0:
			x.Kind = api.Dir
		case 1:
			x.Link = string(some(4))
		default:
			x.Data = some(300)
		}
		items = append(items, x)
	}
	return items
}

// P19.3: any items, and any bytes: those of items, cut off, with one more, or with one that is another one, and others.
func TestPackAny(t *testing.T) {
	r := rand.New(rand.NewSource(193))
	for range 3000 {
		items := someItems(r)
		b, e := fs.Pack(items...)
		back, f := fs.Unpack(b)
		if e != api.OK || f != api.OK || !bytes.Equal(b, packed(items)) || !fs.Same(items, back) {
			t.Fatalf("P19.3: Pack of %q = %q, %v; back %q, %v", texts(items), b, e, texts(back), f)
		}
		if len(b) == 0 {
			continue
		}
		unpacks(t, b[:r.Intn(len(b))])
		unpacks(t, append(bytes.Clone(b), byte(r.Intn(256))))
		other := bytes.Clone(b)
		other[r.Intn(len(b))] = byte(r.Intn(8))
		unpacks(t, other)
	}
	answered := 0
	for range 200000 {
		b := make([]byte, r.Intn(20))
		for i := range b {
			b[i] = byte(max(0, r.Intn(12)-8))
		}
		if unpacks(t, b) && len(b) > 0 {
			answered++
		}
	}
	if answered < 100 {
		t.Errorf("P19.3: %d of all bytes were items: the test is in vain", answered)
	}
}
