package trace_test

import (
	"math"
	"math/rand"
	"slices"
	"strings"
	"testing"

	"drumlin/api"
	"drumlin/fs"
	"drumlin/sys"
	"drumlin/trace"
)

// P25.2: items as lines, and back.
func TestItems(t *testing.T) {
	long := strings.Repeat("/a", 40000)
	for _, x := range []struct {
		items []fs.Item
		want  string
	}{
		{nil, ""},
		{[]fs.Item{}, ""},
		{[]fs.Item{{Path: "/d", Kind: api.Dir}}, "d /d\n"},
		{[]fs.Item{{Path: "/f", Kind: api.File}}, "f /f %\n"},
		{[]fs.Item{{Path: "/f", Kind: api.File, Data: []byte{}}}, "f /f %\n"},
		{[]fs.Item{{Path: "/f", Kind: api.File, Data: []byte("hi")}}, "f /f hi\n"},
		{[]fs.Item{{Path: "/f", Kind: api.File, Data: []byte("\x00 \n%")}}, "f /f %00%20%0A%25\n"},
		{[]fs.Item{{Path: "/l", Kind: api.File, Link: "/f"}}, "l /l /f\n"},
		{[]fs.Item{{Path: "/l", Kind: api.File, Link: "/f", Data: []byte{}}}, "l /l /f\n"},
		{[]fs.Item{{Path: "a b\n", Kind: api.File, Link: "%"}}, "l a%20b%0A %25\n"},
		{[]fs.Item{{Kind: api.Dir}, {Kind: api.File}, {Kind: api.File, Link: " "}}, "d %\nf % %\nl % %20\n"},
		{[]fs.Item{{Path: "/b", Kind: api.Dir}, {Path: "/b", Kind: api.Dir}, {Path: "/a", Kind: api.File, Link: "/b"}}, "d /b\nd /b\nl /a /b\n"},
		{[]fs.Item{{Path: long, Kind: api.File, Data: []byte(long)}, {Path: "d", Kind: api.Dir}}, "f " + long + " " + long + "\nd d\n"},
	} {
		if s := trace.Items(x.items); s != x.want {
			t.Errorf("P25.2: Items of %.200v = %.60q, want %.60q", x.items, s, x.want)
		}
		items, e := trace.ParseItems(x.want)
		if e != api.OK || !fs.Same(items, x.items) || len(x.items) == 0 && items != nil {
			t.Errorf("P25.2: ParseItems(%.60q) = %.200v, %v", x.want, items, e)
		}
	}
}

// P25.2: items that may not be have each a line all the same.
func TestItemsOfNone(t *testing.T) {
	items := []fs.Item{{}, {Path: "/a", Kind: 3, Data: []byte("x")}, {Path: "/a", Kind: -1, Link: "/b"}, {Path: "/d", Kind: api.Dir, Data: []byte("x")}, {Path: "/d", Kind: api.Dir, Link: "/b"}, {Path: "/l", Kind: api.File, Link: "/b", Data: []byte("x")}, {Path: "/z", Kind: math.MinInt}}
	list := strings.SplitAfter(trace.Items(items), "\n")
	if len(list) != len(items)+1 || list[len(items)] != "" {
		t.Fatalf("P25.2: %q of %d items", list, len(items))
	}
	for i, x := range items {
		if line := trace.Items([]fs.Item{x}); line != list[i] || !strings.Contains(line, sys.Escape([]byte(x.Path))) {
			t.Errorf("P25.2: of %v: %q, and among others %q", x, line, list[i])
		}
	}
}

// P25.2: what Items never makes of items that may be.
func TestParseItemsRefuses(t *testing.T) {
	for _, s := range []string{
		"\n", " ", "d", "d\n", "d \n", "d /d", "d /d ", "d /d \n", "d  /d\n", " d /d\n", "d /d %\n", "d /d x\n", "D /d\n", "dd /d\n", "x /d\n", " /d\n", "/d\n", "d /d\r\n", "d /d\x00\n", "d %2f\n", "d /%\n", "d %%\n", "d %64\n", "d é\n",
		"f", "f\n", "f /f\n", "f /f \n", "f /f x", "f /f x \n", "f /f x y\n", "f  /f x\n", "f /f  x\n", "f /f %2\n", "f /f %2e\n", "f /f %2E\n", "f /f a:b\n", "f % \n", "f %\n", "F /f x\n", "file /f x\n",
		"l", "l\n", "l /l\n", "l /l \n", "l /l %\n", "l /a %\n", "l /l /f", "l /l /f \n", "l /l /f x\n", "l  /l /f\n", "l /l %2f\n", "l /l :\n", "link /l /f\n",
		"d /d\n\n", "\nd /d\n", "d /d\n\nf /f x\n", "d /d\nf /f\n", "d /d\nf /f x", "d /d\nx\nf /f x\n", "f /f\nd /d\n", "#\n", "# d /d\n", "d /d\n#\n",
		strings.Repeat("\n", 70000), strings.Repeat("d /d\n", 20000) + "d", "d " + strings.Repeat("%", 70000) + "\n", "f /f" + strings.Repeat(" x", 70000) + "\n",
	} {
		if items, e := trace.ParseItems(s); e != api.ErrForm || items != nil {
			t.Errorf("P25.2: ParseItems(%.40q) = %.200v, %v", s, items, e)
		}
	}
}

// areItems: are they such lines, by the document's words? (Of an escaped text it is asked whether it is one.)
func areItems(s string) bool {
	if s != "" && !strings.HasSuffix(s, "\n") {
		return false
	}
	list := strings.Split(s, "\n")
	for _, line := range list[:len(list)-1] {
		words := strings.Split(line, " ")
		for _, word := range words[1:] {
			if _, ok := sys.Unescape(word); !ok {
				return false
			}
		}
		switch {
		case len(words) == 2 && words[0] == "d", len(words) == 3 && words[0] == "f", len(words) == 3 && words[0] == "l" && words[2] != "%":
			continue
		}
		return false
	}
	return true
}

// someItems may be.
func someItems(r *rand.Rand) []fs.Item {
	var items []fs.Item
	for range r.Intn(4) {
		x := fs.Item{Path: string(some(r)), Kind: api.File}
		switch r.Intn(3) {
		case 0:
			x.Kind = api.Dir
		case 1:
			x.Link = string(some(r))
		default:
			x.Data = some(r)
		}
		items = append(items, x)
	}
	return items
}

// P25.2: each undoes the other; any text, also one that is nearly made of items.
func TestItemsAndBack(t *testing.T) {
	r := rand.New(rand.NewSource(252))
	read, refused := 0, 0
	for range 40000 {
		want := someItems(r)
		s := trace.Items(want)
		if items, e := trace.ParseItems(s); e != api.OK || !fs.Same(items, want) || !areItems(s) {
			t.Fatalf("P25.2: ParseItems(%q) = %v, %v; want %v", s, items, e, want)
		}
		if s == "" {
			continue
		}
		near := spoiled(r, s)
		items, e := trace.ParseItems(near)
		if areItems(near) != (e == api.OK) {
			t.Fatalf("P25.2: ParseItems(%q) = %v, %v", near, items, e)
		}
		if e == api.OK {
			read++
			if trace.Items(items) != near {
				t.Fatalf("P25.2: ParseItems(%q) = %v", near, items)
			}
			continue
		}
		refused++
		if e != api.ErrForm || items != nil {
			t.Fatalf("P25.2: ParseItems(%q) = %v, %v", near, items, e)
		}
	}
	if read < 500 || refused < 500 {
		t.Errorf("P25.2: %d read, %d refused: the test is in vain", read, refused)
	}
}

// P25.2: Data that are handed in stay as they are, and those that are answered are nobody else's.
func TestItemsMemory(t *testing.T) {
	data := append(make([]byte, 0, 9), "a b"...)
	s := trace.Items([]fs.Item{{Path: "/f", Kind: api.File, Data: data}, {Path: "/g", Kind: api.File, Data: data}})
	if !slices.Equal(data[:9], []byte("a b\x00\x00\x00\x00\x00\x00")) {
		t.Errorf("P25.2: Data were changed: %q", data[:9])
	}
	items, _ := trace.ParseItems(s)
	items[0].Data[0] = 'x'
	items[0].Data = append(items[0].Data, 'y')
	if string(items[1].Data) != "a b" || trace.Items(items[1:]) != "f /g a%20b\n" {
		t.Errorf("P25.2: Data are shared: %v", items)
	}
}
