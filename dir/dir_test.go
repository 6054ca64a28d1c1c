package dir_test

import (
	"bytes"
	"math"
	"slices"
	"strings"
	"testing"

	"drumlin/api"
	"drumlin/dir"
	"drumlin/dirent"
	"drumlin/disk"
	"drumlin/geom"
	"drumlin/vol"
)

// ends are numbers at the edges of what there is, and far off.
var ends = []int{math.MinInt, -1 << 32, -1, 0, 1, 2, 20, 21, 200, 201, 65535, 65536, 1 << 32, math.MaxInt}

// format: a volume whose room is enough for a file of all blocks, with a directory (2) and a file (3), both of one link.
func format(t *testing.T) (*disk.Disk, *vol.Vol) {
	t.Helper()
	g := geom.Geom{Segs: 20, Groups: 32, Inodes: 20}
	d, _ := disk.New(g.Sectors())
	v, e := vol.Format(d, g, 5)
	if e != api.OK {
		t.Fatalf("no volume: %v", e)
	}
	for _, kind := range []int{api.Dir, api.File} {
		num, _ := v.New(kind)
		v.Link(num, 1)
		v.Mark(num, 77)
	}
	return d, v
}

// lay: just these bytes are those of number 2.
func lay(v *vol.Vol, b []byte) {
	v.Truncate(2, 0)
	v.Write(2, 0, b)
}

// laid: the bytes of blocks with these entries, as the document has them.
func laid(entries ...dirent.Entry) []byte {
	b := make([]byte, (len(entries)+3)/4*128)
	for i, x := range entries {
		at := b[32*i:]
		at[0], at[1], at[2] = byte(x.Num), byte(x.Num>>8), byte(len(x.Name))
		copy(at[3:], x.Name)
	}
	return b
}

// many: entries of n blocks that are all full.
func many(n int) []dirent.Entry {
	list := make([]dirent.Entry, 4*n)
	for i := range list {
		list[i] = dirent.Entry{Num: 1 + i%200, Name: "n" + strings.Repeat("x", i%23) + string(rune('0'+i%10)) + string(rune('A'+i/10%10))}
	}
	return list
}

// state is what a later call could tell of number 2.
type state struct {
	bytes   string
	indexes string
	time    uint32
	cost    int
}

func of(v *vol.Vol) state {
	b, _ := v.Read(2, 0, api.MaxSize)
	indexes, _ := v.Indexes(2)
	time, _ := v.Marked(2)
	var list []byte
	for _, i := range indexes {
		list = append(list, byte(i), byte(i>>8))
	}
	return state{string(b), string(list), time, v.Cost()}
}

// calls: all calls of a number, with arguments that nothing is wrong with: beside an error each must answer zero values.
func calls(t *testing.T, v *vol.Vol, num int) map[string]api.Errno {
	t.Helper()
	answers := map[string]api.Errno{}
	list, e := dir.List(v, num)
	if answers["List"] = e; e != api.OK && list != nil {
		t.Errorf("P17.1: List(%d) = %v beside %v", num, list, e)
	}
	n, e := dir.Find(v, num, "..")
	if answers["Find"] = e; e != api.OK && n != 0 {
		t.Errorf("P17.1: Find(%d) = %d beside %v", num, n, e)
	}
	answers["Insert"] = dir.Insert(v, num, "new", 9)
	n, e = dir.Replace(v, num, "new", 10)
	if answers["Replace"] = e; e != api.OK && n != 0 || e == api.OK && n != 9 {
		t.Errorf("P17.1: Replace(%d) = %d beside %v", num, n, e)
	}
	n, e = dir.Remove(v, num, "new")
	if answers["Remove"] = e; e != api.OK && n != 0 || e == api.OK && n != 10 {
		t.Errorf("P17.1: Remove(%d) = %d beside %v", num, n, e)
	}
	ok, e := dir.Empty(v, num)
	if answers["Empty"] = e; e != api.OK && ok {
		t.Errorf("P17.3: Empty(%d) = %v beside %v", num, ok, e)
	}
	n, e = dir.Grows(v, num)
	if answers["Grows"] = e; e != api.OK && n != 0 {
		t.Errorf("P17.3: Grows(%d) = %d beside %v", num, n, e)
	}
	return answers
}

// P17.1, P17.2: the document's example.
func TestExample(t *testing.T) {
	_, v := format(t)
	if e := dir.Start(v, 1, 1); e != api.OK {
		t.Fatalf("P17.3: Start = %v", e)
	}
	for i, name := range []string{"a", "b", "c", "d"} {
		if e := dir.Insert(v, 1, name, 4+i); e != api.OK {
			t.Errorf("P17.1: Insert(%q) = %v", name, e)
		}
	}
	list, e := dir.List(v, 1)
	if size, _ := v.Size(1); e != api.OK || size != 256 || !slices.Equal(list, []dirent.Entry{{Num: 1, Name: ".."}, {Num: 4, Name: "a"}, {Num: 5, Name: "b"}, {Num: 6, Name: "c"}, {Num: 7, Name: "d"}}) {
		t.Errorf("P17.2: List = %v, %v in %d bytes", list, e, size)
	}
	n, e := dir.Remove(v, 1, "d")
	if size, _ := v.Size(1); n != 7 || e != api.OK || size != 128 {
		t.Errorf("P17.2: Remove = %d, %v; %d bytes are left", n, e, size)
	}
}

// P17.1: the errors of the number, of all calls, ahead of all others.
func TestNumbers(t *testing.T) {
	_, v := format(t)
	v.Write(3, 0, []byte("no directory's"))
	dir.Start(v, 1, 1)
	dir.Start(v, 2, 1)
	for _, num := range append(ends, 3, 4) {
		want := api.ErrNoent
		switch {
		case num < 1 || num > 20:
			want = api.ErrInval
		case num == 3:
			want = api.ErrNotdir
		case num < 3:
			want = api.OK
		}
		for what, e := range calls(t, v, num) {
			if e != want {
				t.Errorf("P17.1: %s(%d) = %v; want %v", what, num, e, want)
			}
		}
		if want == api.OK {
			continue
		}
		for _, other := range ends {
			if e := dir.Start(v, num, other); e != want {
				t.Errorf("P17.3: Start(%d, %d) = %v; want %v", num, other, e, want)
			}
			if e := dir.Insert(v, num, "a/b", other); e != want {
				t.Errorf("P17.1: Insert(%d, %d) = %v; want %v", num, other, e, want)
			}
			if n, e := dir.Replace(v, num, "none", other); n != 0 || e != want {
				t.Errorf("P17.1: Replace(%d, %d) = %d, %v; want %v", num, other, n, e, want)
			}
		}
	}
	if b, _ := v.Read(3, 0, 99); string(b) != "no directory's" {
		t.Errorf("P17.1: the file is %q", b)
	}
}

// P17.1: what is wrong with a name, or with a number that is named: the least error is told, and nothing changes.
func TestRefused(t *testing.T) {
	_, v := format(t)
	dir.Start(v, 2, 1)
	dir.Insert(v, 2, "old", 3)
	was := of(v)
	long := strings.Repeat("x", 26)
	for _, x := range []struct {
		name   string
		insert api.Errno
		other  api.Errno // of Find, Remove and Replace
	}{
		{"", api.ErrNoent, api.ErrNoent},
		{"old", api.ErrExist, api.OK},
		{"..", api.ErrExist, api.OK},
		{"new", api.OK, api.ErrNoent},
		{".", api.OK, api.ErrNoent},
		{long, api.OK, api.ErrNoent},
		{long + "x", api.ErrNametoolong, api.ErrNoent},
		{strings.Repeat("x", 1<<16), api.ErrNametoolong, api.ErrNoent},
		{"/", api.ErrInval, api.ErrNoent},
		{"a\x00", api.ErrInval, api.ErrNoent},
		{long + "/", api.ErrInval, api.ErrNoent},
		{"ol", api.OK, api.ErrNoent},
		{"OLD", api.OK, api.ErrNoent},
		{"\xff\xfe", api.OK, api.ErrNoent},
	} {
		for _, to := range ends {
			bad := to < 1 || to > 200
			insert, replace := x.insert, x.other
			if bad {
				insert, replace = api.ErrInval, api.ErrInval
			}
			if e := dir.Insert(v, 2, x.name, to); e != insert {
				t.Errorf("P17.1: Insert(%q, %d) = %v; want %v", x.name, to, e, insert)
			} else if e == api.OK {
				if n, e := dir.Remove(v, 2, x.name); n != to || e != api.OK {
					t.Errorf("P17.1: Remove(%q) = %d, %v; want %d", x.name, n, e, to)
				}
			}
			if n, e := dir.Replace(v, 2, x.name, to); e != replace || e != api.OK && n != 0 {
				t.Errorf("P17.1: Replace(%q, %d) = %d, %v; want %v", x.name, to, n, e, replace)
			} else if e == api.OK {
				if now, _ := dir.Find(v, 2, x.name); now != to {
					t.Errorf("P17.1: Replace(%q, %d): it names %d", x.name, to, now)
				}
				if m, e := dir.Replace(v, 2, x.name, n); m != to || e != api.OK {
					t.Errorf("P17.1: Replace(%q, %d) = %d, %v", x.name, n, m, e)
				}
			}
		}
		if _, e := dir.Find(v, 2, x.name); e != x.other {
			t.Errorf("P17.1: Find(%q) = %v; want %v", x.name, e, x.other)
		}
		if x.other != api.OK {
			if n, e := dir.Remove(v, 2, x.name); n != 0 || e != x.other {
				t.Errorf("P17.1: Remove(%q) = %d, %v", x.name, n, e)
			}
		}
		if of(v) != was {
			t.Fatalf("P17.1: %q: something changed", x.name)
		}
	}
}

// P17.3: Start takes away whatever bytes there were, and is refused with any other parent than those that may be.
func TestStart(t *testing.T) {
	_, v := format(t)
	for _, b := range [][]byte{nil, []byte("junk"), make([]byte, 128), laid(many(50)...)} {
		for _, parent := range ends {
			lay(v, b)
			was := of(v)
			e := dir.Start(v, 2, parent)
			if parent < 1 || parent > 200 {
				if e != api.ErrInval || of(v) != was {
					t.Errorf("P17.3: Start(%d) = %v", parent, e)
				}
				continue
			}
			now := of(v)
			if want := string(laid(dirent.Entry{Num: parent, Name: ".."})); e != api.OK || now.bytes != want || now.indexes != "\x00\x00" || now.time != 77 {
				t.Errorf("P17.3: Start(%d) = %v, bytes %q", parent, e, now.bytes)
			}
			if n, e := dir.Find(v, 2, ".."); n != parent || e != api.OK {
				t.Errorf("P17.3: Find(..) = %d, %v", n, e)
			}
		}
	}
}

// P17.3: empty is what has no entry but "..", also what hasn't even that.
func TestEmpty(t *testing.T) {
	_, v := format(t)
	one, other := dirent.Entry{Num: 4, Name: ".."}, dirent.Entry{Num: 4, Name: "a"}
	for _, x := range []struct {
		list []dirent.Entry
		want bool
	}{
		{nil, true},
		{[]dirent.Entry{one}, true},
		{[]dirent.Entry{{}, {}, one}, true},
		{[]dirent.Entry{one, one}, true},
		{[]dirent.Entry{other}, false},
		{[]dirent.Entry{one, {}, other}, false},
		{[]dirent.Entry{{}, {}, {}, {}, {}, other}, false},
		{[]dirent.Entry{{Num: 4, Name: "."}}, false},
		{[]dirent.Entry{{Num: 4, Name: "..."}}, false},
	} {
		lay(v, laid(x.list...))
		if ok, e := dir.Empty(v, 2); ok != x.want || e != api.OK {
			t.Errorf("P17.3: Empty of %v = %v, %v", x.list, ok, e)
		}
	}
}

// P17.2: the first place that is none is used, block by block; a block in the middle may be empty, the last one never is.
func TestPlaces(t *testing.T) {
	_, v := format(t)
	names := strings.Split("abcdefghijklmno", "")
	dir.Start(v, 2, 1)
	for i, name := range names {
		dir.Insert(v, 2, name, i+3)
	}
	remove := func(want int, list ...string) {
		t.Helper()
		for _, name := range list {
			if n, e := dir.Remove(v, 2, name); e != api.OK || n != slices.Index(names, name)+3 {
				t.Fatalf("P17.1: Remove(%q) = %d, %v", name, n, e)
			}
		}
		if size, _ := v.Size(2); size != want*128 {
			t.Fatalf("P17.2: behind Remove of %v: %d bytes; want %d blocks", list, size, want)
		}
	}
	remove(4, "h", "e", "g", "d", "f") // all of the block in the middle but "d"
	if list, _ := dir.List(v, 2); len(list) != 11 || list[3].Name != "c" || list[4].Name != "i" {
		t.Errorf("P17.2: List = %v", list)
	}
	remove(3, "l", "m", "n", "o")
	remove(1, "i", "j", "k") // and the one in the middle, which was empty, too
	dir.Insert(v, 2, "d", 6)
	if size, _ := v.Size(2); size != 256 {
		t.Errorf("P17.2: size %d", size)
	}
	for _, x := range []struct {
		gone, name string
		place      int
	}{{"b", "x", 2}, {"a", "y", 1}, {"d", "z", 4}} {
		at := slices.IndexFunc(must(dir.List(v, 2)), func(entry dirent.Entry) bool { return entry.Name == x.gone })
		dir.Remove(v, 2, x.gone)
		dir.Insert(v, 2, x.name, 99)
		if b, _ := v.Read(2, x.place*32, 4); at != x.place || string(b) != "\x63\x00\x01"+x.name {
			t.Errorf("P17.2: %q stood at %d; there is %q", x.gone, at, b)
		}
	}
	dir.Remove(v, 2, "z")
	dir.Remove(v, 2, "c")
	dir.Remove(v, 2, "y")
	dir.Insert(v, 2, "1", 11)
	dir.Insert(v, 2, "3", 13)
	if list := must(dir.List(v, 2)); !slices.Equal(list, []dirent.Entry{{Num: 1, Name: ".."}, {Num: 11, Name: "1"}, {Num: 99, Name: "x"}, {Num: 13, Name: "3"}}) {
		t.Errorf("P17.2: List = %v", list)
	}
	for _, name := range []string{"1", "x", "3", ".."} {
		dir.Remove(v, 2, name)
	}
	if now := of(v); now.bytes != "" || now.indexes != "" {
		t.Errorf("P17.2: behind the last Remove: %q", now.bytes)
	}
	if list, e := dir.List(v, 2); list != nil || e != api.OK {
		t.Errorf("P17.1: List of no bytes = %v, %v", list, e)
	}
}

func must(list []dirent.Entry, e api.Errno) []dirent.Entry {
	if e != api.OK {
		return nil
	}
	return list
}

// P17.1: of alike names the first one counts.
func TestTwice(t *testing.T) {
	_, v := format(t)
	list := []dirent.Entry{{Num: 1, Name: ".."}, {Num: 5, Name: "a"}, {Num: 6, Name: "b"}, {Num: 7, Name: "a"}, {Num: 8, Name: "a"}}
	lay(v, laid(list...))
	if n, e := dir.Replace(v, 2, "a", 15); n != 5 || e != api.OK {
		t.Errorf("P17.1: Replace = %d, %v", n, e)
	}
	for _, want := range []int{15, 7, 8} {
		if n, e := dir.Find(v, 2, "a"); n != want || e != api.OK {
			t.Errorf("P17.1: Find = %d, %v; want %d", n, e, want)
		}
		if n, e := dir.Remove(v, 2, "a"); n != want || e != api.OK {
			t.Errorf("P17.1: Remove = %d, %v; want %d", n, e, want)
		}
	}
	if list, _ := dir.List(v, 2); len(list) != 2 || list[1].Name != "b" {
		t.Errorf("P17.1: List = %v", list)
	}
}

// P17.4: bytes that are no directory's: all calls but Start tell it, ahead of what else is wrong, and change nothing.
func TestForm(t *testing.T) {
	_, v := format(t)
	good := laid(dirent.Entry{Num: 1, Name: ".."}, dirent.Entry{Num: 9, Name: "abc"})
	with := func(at int, b byte) []byte {
		list := bytes.Clone(good)
		list[at] = b
		return list
	}
	bad := map[string][]byte{
		"a byte":                           {0},
		"a block and a byte":               append(bytes.Clone(good), 0),
		"a byte less than a block":         good[:127],
		"a byte less than two":             append(bytes.Clone(good), good[:127]...),
		"an empty block":                   make([]byte, 128),
		"an empty block behind":            append(bytes.Clone(good), make([]byte, 128)...),
		"two empty blocks behind":          append(bytes.Clone(good), make([]byte, 256)...),
		"a number above 200":               with(32, 201),
		"a number far above":               with(33, 1),
		"a name without a number":          with(32, 0),
		"a byte behind a name":             with(60, 'x'),
		"a byte of one that is none":       with(127, 1),
		"a name with a /":                  with(36, '/'),
		"a name with a 0":                  with(36, 0),
		"a name that is longer":            with(34, 27),
		"a name that is far longer":        with(34, 255),
		"a name that is shorter":           with(34, 2),
		"an empty name":                    with(34, 0),
		"a second block that is bad":       append(bytes.Clone(good), with(33, 1)...),
		"a first block that is bad":        append(with(33, 1), good...),
		"all bytes that a file may have":   bytes.Repeat([]byte{1}, api.MaxSize),
		"all noughts that a file may have": make([]byte, api.MaxSize),
	}
	check := func(what string) {
		t.Helper()
		was := of(v)
		for call, e := range calls(t, v, 2) {
			if e != api.ErrForm {
				t.Errorf("P17.4: %s: %s = %v", what, call, e)
			}
		}
		if e := dir.Insert(v, 2, "/", 0); e != api.ErrForm {
			t.Errorf("P17.4: %s: Insert = %v", what, e)
		}
		if n, e := dir.Replace(v, 2, "x", 0); n != 0 || e != api.ErrForm {
			t.Errorf("P17.4: %s: Replace = %d, %v", what, n, e)
		}
		if e := dir.Start(v, 2, 0); e != api.ErrInval {
			t.Errorf("P17.4: %s: Start = %v", what, e)
		}
		if of(v) != was {
			t.Errorf("P17.4: %s: something changed", what)
		}
		if e := dir.Start(v, 2, 1); e != api.OK {
			t.Errorf("P17.4: %s: Start = %v", what, e)
		}
		if list, e := dir.List(v, 2); len(list) != 1 || e != api.OK {
			t.Errorf("P17.4: %s: behind Start: %v, %v", what, list, e)
		}
	}
	for what, b := range bad {
		lay(v, b)
		check(what)
	}
	lay(v, good)
	v.Truncate(2, 256)
	check("a hole at the end")
	v.Truncate(2, 0)
	v.Truncate(2, 128)
	check("nothing but a hole")
}

// P17.4: bytes that are a directory's, though none of these calls makes them: holes and empty blocks ahead of the last one, no "..", none at all.
func TestOdd(t *testing.T) {
	_, v := format(t)
	last := laid(dirent.Entry{}, dirent.Entry{Num: 3, Name: "z"})
	for what, lie := range map[string]func(){
		"a hole":          func() { v.Write(2, 128, last) },
		"holes":           func() { v.Write(2, 128*50, last) },
		"an empty block":  func() { v.Write(2, 0, append(make([]byte, 128), last...)) },
		"no bytes":        func() {},
		"no other":        func() { v.Write(2, 0, last) },
		"a hole at most":  func() { v.Write(2, api.MaxSize-128, last) },
		"a number of 200": func() { v.Write(2, 0, laid(dirent.Entry{Num: 200, Name: strings.Repeat("z", 26)})) },
	} {
		v.Truncate(2, 0)
		lie()
		if n, e := dir.Grows(v, 2); e != api.OK || (n == 0) == (what == "no bytes") {
			t.Errorf("P17.3: %s: Grows = %d, %v", what, n, e)
		}
		if e := dir.Insert(v, 2, "a", 6); e != api.OK {
			t.Errorf("P17.1: %s: Insert = %v", what, e)
		}
		if n, e := dir.Find(v, 2, "a"); n != 6 || e != api.OK {
			t.Errorf("P17.1: %s: Find = %d, %v", what, n, e)
		}
		at := 0
		if what == "a number of 200" {
			at = 32
		}
		if b, _ := v.Read(2, at, 4); string(b) != "\x06\x00\x01a" {
			t.Errorf("P17.2: %s: the first place has %q", what, b)
		}
		dir.Remove(v, 2, "z")
		dir.Remove(v, 2, strings.Repeat("z", 26))
		if size, _ := v.Size(2); size != 128 {
			t.Errorf("P17.2: %s: size %d", what, size)
		}
	}
}

// P17.1 to P17.3: what a directory costs as it grows, up to all blocks that a file may have.
func TestGrows(t *testing.T) {
	_, v := format(t)
	for _, n := range []int{0, 1, 2, 7, 8, 9, 39, 40, 41, 71, 72, 73, 1031, 1032, 1063} {
		lay(v, laid(many(n)...))
		was := v.Cost()
		want := 1
		if n == 8 {
			want = 2
		} else if n == 40 {
			want = 3
		} else if n > 40 && (n-40)%32 == 0 {
			want = 2
		}
		if k, e := dir.Grows(v, 2); k != want || e != api.OK {
			t.Errorf("P17.3: Grows of %d blocks = %d, %v; want %d", n, k, e, want)
		}
		if e := dir.Insert(v, 2, "new", 7); e != api.OK || v.Cost()-was != want {
			t.Errorf("P17.3: Insert behind %d blocks = %v, and costs %d; want %d", n, e, v.Cost()-was, want)
		}
		if b, _ := v.Read(2, n*128, 200); !bytes.Equal(b, laid(dirent.Entry{Num: 7, Name: "new"})) {
			t.Errorf("P17.2: behind %d blocks there is %q", n, b)
		}
		if k, e := dir.Grows(v, 2); k != 0 || e != api.OK {
			t.Errorf("P17.3: Grows with places left = %d, %v", k, e)
		}
		if k, e := dir.Remove(v, 2, "new"); k != 7 || e != api.OK || v.Cost() != was {
			t.Errorf("P17.2: Remove = %d, %v; Cost %d, was %d", k, e, v.Cost(), was)
		}
	}
}

// P17.1, P17.2: a directory that has all blocks and no place.
func TestFull(t *testing.T) {
	_, v := format(t)
	list := many(1064)
	list[3001].Name = "here"
	lay(v, laid(list...))
	was := of(v)
	if k, e := dir.Grows(v, 2); k != 0 || e != api.OK {
		t.Errorf("P17.3: Grows = %d, %v", k, e)
	}
	for _, x := range []struct {
		name string
		to   int
		want api.Errno
	}{{"new", 3, api.ErrFbig}, {"here", 3, api.ErrExist}, {"", 3, api.ErrNoent}, {strings.Repeat("x", 27), 3, api.ErrNametoolong}, {"new", 201, api.ErrInval}, {"n/w", 3, api.ErrInval}} {
		if e := dir.Insert(v, 2, x.name, x.to); e != x.want || of(v) != was {
			t.Errorf("P17.1: Insert(%q, %d) = %v; want %v", x.name, x.to, e, x.want)
		}
	}
	if n, e := dir.Remove(v, 2, "here"); n != list[3001].Num || e != api.OK {
		t.Errorf("P17.1: Remove = %d, %v", n, e)
	}
	if e := dir.Insert(v, 2, "new", 3); e != api.OK {
		t.Errorf("P17.2: Insert = %v", e)
	}
	if b, _ := v.Read(2, 32*3001, 6); string(b) != "\x03\x00\x03new" {
		t.Errorf("P17.2: the place has %q", b)
	}
}

// P17.1: a disk that is dead isn't read: its error is told, and nothing changes; Start needn't read.
func TestDead(t *testing.T) {
	d, v := format(t)
	lay(v, laid(many(3)...))
	if e := v.Flush(); e != api.OK {
		t.Fatalf("no flush: %v", e)
	}
	was := of(v)
	d.Arm(0)
	d.Flush()
	for what, e := range calls(t, v, 2) {
		if e != api.ErrIo {
			t.Errorf("P17.1: %s of a dead disk = %v", what, e)
		}
	}
	d.Crash()
	if of(v) != was {
		t.Errorf("P17.1: something changed, as the disk was dead")
	}
	d.Arm(0)
	d.Flush()
	if e := dir.Start(v, 2, 1); e != api.OK {
		t.Errorf("P17.3: Start = %v", e)
	}
	if n, e := dir.Find(v, 2, ".."); n != 1 || e != api.OK {
		t.Errorf("P17.3: Find = %d, %v", n, e)
	}
}
