package dirent_test

import (
	"math"
	"math/rand"
	"strings"
	"testing"

	"drumlin/api"
	"drumlin/dirent"
)

const longest = "abcdefghijklmnopqrstuvwxyz"

// laid is a block as the document has it, byte by byte.
func laid(list [4]dirent.Entry) api.Sector {
	var s api.Sector
	for i, x := range list {
		at := 32 * i
		s[at], s[at+1] = byte(x.Num), byte(x.Num/256)
		s[at+2] = byte(len(x.Name))
		for k := range len(x.Name) {
			s[at+3+k] = x.Name[k]
		}
	}
	return s
}

// some is a block that may be.
func some(r *rand.Rand) [4]dirent.Entry {
	var list [4]dirent.Entry
	for i := range list {
		if r.Intn(3) > 0 {
			list[i] = dirent.Entry{Num: 1 + r.Intn(200), Name: someName(r)}
		}
	}
	return list
}

func someName(r *rand.Rand) string {
	b := make([]byte, 1+r.Intn(26))
	for i := range b {
		b[i] = byte(1 + r.Intn(255))
		if b[i] == '/' {
			b[i] = 255
		}
	}
	return string(b)
}

func holds(t *testing.T, list [4]dirent.Entry) {
	t.Helper()
	s, e := dirent.Write(list)
	if s != laid(list) || e != api.OK {
		t.Errorf("P6.2: Write(%v) = % x, %v", list, s, e)
	}
	if back, e := dirent.Read(laid(list)); back != list || e != api.OK {
		t.Errorf("P6.2: Read = %v, %v; want %v", back, e, list)
	}
}

// refused is whether an entry is refused, wherever it stands, and whatever else is there.
func refused(t *testing.T, x dirent.Entry) {
	t.Helper()
	for i := range 4 {
		for _, list := range [][4]dirent.Entry{{}, {{1, "a"}, {2, "b"}, {3, "c"}, {4, "d"}}} {
			list[i] = x
			if s, e := dirent.Write(list); s != (api.Sector{}) || e != api.ErrInval {
				t.Errorf("P6.2: Write(%v) = % x, %v", list, s, e)
			}
		}
	}
}

func formless(t *testing.T, s api.Sector, what string) {
	t.Helper()
	if list, e := dirent.Read(s); list != [4]dirent.Entry{} || e != api.ErrForm {
		t.Errorf("P6.2: %s: Read(% x) = %v, %v", what, s, list, e)
	}
}

// P6.1: which names are good; of several errors the least is told.
func TestGood(t *testing.T) {
	want := map[string]api.Errno{
		"": api.ErrNoent, "a": api.OK, ".": api.OK, "..": api.OK, "...": api.OK, " ": api.OK, "\\": api.OK, "%": api.OK,
		"\xff": api.OK, "\xff\xfe": api.OK, "é": api.OK, "\uFFFD": api.OK, "\n": api.OK, "\x01": api.OK, ".\x7f0": api.OK,
		longest: api.OK, longest + "1": api.ErrNametoolong, strings.Repeat("é", 13): api.OK, strings.Repeat("é", 14): api.ErrNametoolong,
		strings.Repeat("a", 256): api.ErrNametoolong, strings.Repeat("a", 256+5): api.ErrNametoolong, strings.Repeat("a", 1<<16): api.ErrNametoolong,
		"/": api.ErrInval, "\x00": api.ErrInval, "a/": api.ErrInval, "/a": api.ErrInval, "a/b": api.ErrInval, "a\x00": api.ErrInval, "\x00a": api.ErrInval,
		longest[1:] + "/": api.ErrInval, longest + "/": api.ErrInval, "/" + longest: api.ErrInval, longest + "\x00": api.ErrInval, longest + longest + "\x00x": api.ErrInval, "\xff/": api.ErrInval, "\xff\x00": api.ErrInval,
	}
	for name, e := range want {
		if got := dirent.Good(name); got != e {
			t.Errorf("P6.1: Good(%q) = %v; want %v", name, got, e)
		}
	}
	for b := range 256 {
		e := api.OK
		if b == 0 || b == '/' {
			e = api.ErrInval
		}
		for _, name := range []string{string([]byte{byte(b)}), string([]byte{'x', byte(b), 'y'}), longest[:25] + string([]byte{byte(b)})} {
			if got := dirent.Good(name); got != e {
				t.Errorf("P6.1: Good(%q) = %v; want %v", name, got, e)
			}
		}
	}
}

// P6.2: the document's example.
func TestExample(t *testing.T) {
	s, e := dirent.Write([4]dirent.Entry{{3, "ab"}})
	if want := (api.Sector{3, 0, 2, 'a', 'b'}); s != want || e != api.OK {
		t.Errorf("P6.2: Write = % x, %v", s, e)
	}
}

// P6.2: Write and Read, each undoes the other.
func TestWriteRead(t *testing.T) {
	holds(t, [4]dirent.Entry{})
	holds(t, [4]dirent.Entry{{200, longest}, {200, longest}, {200, longest}, {200, longest}})
	random := rand.New(rand.NewSource(9))
	for range 5000 {
		holds(t, some(random))
	}
	for n := 1; n <= 200; n++ {
		holds(t, [4]dirent.Entry{1: {n, "x"}, 3: {201 - n, ".."}})
	}
	for n := 1; n <= 26; n++ {
		holds(t, [4]dirent.Entry{{1, longest[:n]}, {2, strings.Repeat("\xff", n)}, {}, {4, longest[26-n:]}})
	}
}

// P6.2: what may not be isn't written.
func TestWriteErrors(t *testing.T) {
	for _, n := range []int{-1, -2, -200, 201, 202, 255, 256, 257, 65535, 65536, 65537, 1<<32 + 1, math.MinInt, math.MinInt + 1, math.MaxInt} {
		refused(t, dirent.Entry{Num: n, Name: "a"})
		refused(t, dirent.Entry{Num: n})
	}
	for _, name := range []string{"a", "\x00", "/", longest, longest + "1"} {
		refused(t, dirent.Entry{Name: name})
	}
	for _, name := range []string{"", "/", "\x00", "a/b", "a\x00", longest + "1", longest + longest, strings.Repeat("a", 258), strings.Repeat("a", 1<<16)} {
		refused(t, dirent.Entry{Num: 1, Name: name})
		refused(t, dirent.Entry{Num: 200, Name: name})
	}
}

// P6.2: of any sector just what Write makes is read.
func TestReadErrors(t *testing.T) {
	right := laid([4]dirent.Entry{{3, "ab"}, {}, {200, longest}, {7, ".."}})
	for i := range right {
		for n := range 256 {
			s := right
			s[i] = byte(n)
			just(t, s)
		}
	}
	for i := range 4 {
		for _, n := range []int{3, 27, 28, 29, 30, 32, 33, 128, 254, 255} {
			s := laid([4]dirent.Entry{{3, "ab"}, {3, "ab"}, {3, "ab"}, {3, "ab"}})
			s[32*i+2] = byte(n)
			formless(t, s, "a name's length")
		}
	}
	for n := 27; n < 256; n++ {
		s := api.Sector{1, 0, byte(n)}
		for i := 3; i < 32; i++ {
			s[i] = 'a'
		}
		formless(t, s, "too long a name")
	}
	for i := 3; i < 32; i++ { // behind names, and where there is none
		s := right
		s[32+i] = 1
		formless(t, s, "an entry that is none")
		s = right
		s[2*32+29+i%3] = 'x'
		formless(t, s, "bytes behind the longest name")
	}
	for _, s := range []api.Sector{{1}, {0, 1}, {0, 0, 1}, {0, 0, 1, 'a'}, {201, 0, 1, 'a'}, {1, 1, 1, 'a'}, {0, 1, 1, 'a'}, {1, 0, 1}, {1, 0, 1, '/'}, {1, 0, 2, 'a'}, {1, 0, 0, 'a'}, {1, 0, 1, 'a', 'b'}} {
		formless(t, s, "a first entry")
	}
}

// just: what is read is what is written; or it is refused.
func just(t *testing.T, s api.Sector) {
	t.Helper()
	list, e := dirent.Read(s)
	if e != api.OK {
		formless(t, s, "refused")
		return
	}
	if laid(list) != s {
		t.Errorf("P6.2: Read(% x) = %v", s, list)
	}
	if again, e := dirent.Write(list); again != s || e != api.OK {
		t.Errorf("P6.2: Write(%v) = % x, %v; want % x", list, again, e, s)
	}
}

// P6.2: and so with sectors that are nearly right.
func TestReadAnySector(t *testing.T) {
	random := rand.New(rand.NewSource(10))
	for range 20000 {
		s := laid(some(random))
		for range 1 + random.Intn(3) {
			s[random.Intn(len(s))] = byte(random.Intn(40))
		}
		just(t, s)
	}
	for range 20000 {
		var s api.Sector
		for i := range s {
			s[i] = byte(random.Intn(4))
		}
		just(t, s)
	}
}

// P6.3: which one has a name; which one is none; how many aren't.
func TestFindRoomCount(t *testing.T) {
	list := [4]dirent.Entry{{3, "ab"}, {}, {9, "c"}, {4, "ab"}}
	for name, want := range map[string]int{"ab": 0, "c": 2, "": -1, "a": -1, "abc": -1, "AB": -1, "d": -1, "ab\x00": -1, "/": -1} {
		if got := dirent.Find(list, name); got != want {
			t.Errorf("P6.3: Find(%q) = %d; want %d", name, got, want)
		}
	}
	for mask := range 16 {
		var list [4]dirent.Entry
		room, count := -1, 0
		for i := range 4 {
			if mask>>i&1 == 1 {
				list[i] = dirent.Entry{Num: 1 + i, Name: longest[i : i+1]}
				count++
			} else if room < 0 {
				room = i
			}
		}
		if dirent.Room(list) != room || dirent.Count(list) != count {
			t.Errorf("P6.3: of %v: Room = %d, Count = %d; want %d, %d", list, dirent.Room(list), dirent.Count(list), room, count)
		}
		for i := range 4 {
			want := -1
			if mask>>i&1 == 1 {
				want = i
			}
			if got := dirent.Find(list, longest[i:i+1]); got != want {
				t.Errorf("P6.3: Find(%v, %q) = %d; want %d", list, longest[i:i+1], got, want)
			}
		}
	}
}

// P6.3: entries that Write would refuse: one with Num 0 is none, and has no name; each other one is one.
func TestFindOdd(t *testing.T) {
	list := [4]dirent.Entry{{0, "a"}, {-1, "a"}, {math.MaxInt, ""}, {0, ""}}
	if got := dirent.Find(list, "a"); got != 1 {
		t.Errorf("P6.3: Find = %d; want 1", got)
	}
	if got := dirent.Find(list, ""); got != 2 {
		t.Errorf("P6.3: Find = %d; want 2", got)
	}
	if dirent.Room(list) != 0 || dirent.Count(list) != 2 {
		t.Errorf("P6.3: Room = %d, Count = %d; want 0, 2", dirent.Room(list), dirent.Count(list))
	}
}

// P1: no call panics, whatever it is given.
func TestNoPanic(t *testing.T) {
	random := rand.New(rand.NewSource(11))
	ends := []int{math.MinInt, -1, 0, 1, 200, 201, math.MaxInt}
	for range 5000 {
		var list [4]dirent.Entry
		var s api.Sector
		random.Read(s[:])
		for i := range list {
			name := make([]byte, random.Intn(40))
			random.Read(name)
			list[i] = dirent.Entry{Num: ends[random.Intn(len(ends))], Name: string(name)}
			dirent.Good(string(name))
			dirent.Find(list, string(name))
		}
		dirent.Write(list)
		dirent.Read(s)
		dirent.Room(list)
		dirent.Count(list)
	}
}
