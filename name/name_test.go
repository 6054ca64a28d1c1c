package name_test

import (
	"math/rand"
	"slices"
	"strings"
	"testing"

	"drumlin/api"
	"drumlin/name"
)

const longest = "abcdefghijklmnopqrstuvwxyz"

// alike: a list that is nil, and one that is empty, are the same.
func alike(p, q name.Path) bool {
	return p.Abs == q.Abs && p.Dir == q.Dir && slices.Equal(p.Parts, q.Parts)
}

func none(p name.Path) bool {
	return !p.Abs && !p.Dir && p.Parts == nil
}

// path is one with these parts.
func path(abs, dir bool, parts ...string) name.Path {
	return name.Path{Abs: abs, Dir: dir, Parts: parts}
}

// parsed is Parse, byte by byte.
func parsed(s string) (name.Path, api.Errno) {
	var p name.Path
	part, empty, long := "", true, false
	end := func() {
		p.Dir = part == "" || part == "." || part == ".."
		if part != "" && part != "." {
			p.Parts = append(p.Parts, part)
			long = long || len(part) > 26
		}
		part = ""
	}
	for i := range len(s) {
		empty = false
		switch s[i] {
		case 0:
			return name.Path{}, api.ErrInval
		case '/':
			p.Abs = p.Abs || i == 0
			end()
		default:
			part += s[i : i+1]
		}
	}
	end()
	if empty {
		return name.Path{}, api.ErrNoent
	}
	if long || len(s) > 255 || len(p.Parts) > 32 {
		return name.Path{}, api.ErrNametoolong
	}
	return p, api.OK
}

// parses is whether s is taken as it should be, and its text, too.
func parses(t *testing.T, s string) {
	t.Helper()
	want, e := parsed(s)
	p, f := name.Parse(s)
	if e != f || !alike(p, want) || f != api.OK && !none(p) {
		t.Errorf("P8.1: Parse(%q) = %+v, %v; want %+v, %v", s, p, f, want, e)
		return
	}
	if f != api.OK {
		return
	}
	if back, e := name.Parse(p.Text()); e != api.OK || !alike(back, p) {
		t.Errorf("P8.2: Parse(%q) = %+v, %v; want %+v", p.Text(), back, e, p)
	}
}

// everyText calls with each text of these parts, up to so many.
func everyText(most int, parts []string, call func(s string)) {
	var grow func(s string, left int)
	grow = func(s string, left int) {
		call(s)
		if left == 0 {
			return
		}
		for _, x := range parts {
			grow(s+x, left-1)
		}
	}
	grow("", most)
}

// P8.1: the document's example, and others by hand.
func TestParse(t *testing.T) {
	for s, want := range map[string]name.Path{
		"/a//./b/": path(true, true, "a", "b"), "a": path(false, false, "a"), "/a": path(true, false, "a"), "a/": path(false, true, "a"), "a/b": path(false, false, "a", "b"),
		"/": path(true, true), "//": path(true, true), ".": path(false, true), "./": path(false, true), "/.": path(true, true), "././.": path(false, true), "/./": path(true, true),
		"..": path(false, true, ".."), "../": path(false, true, ".."), "/..": path(true, true, ".."), "a/..": path(false, true, "a", ".."), "../a": path(false, false, "..", "a"), "../..": path(false, true, "..", ".."), "../../": path(false, true, "..", ".."),
		"a/.": path(false, true, "a"), "a/./": path(false, true, "a"), "./a": path(false, false, "a"), "a/./b": path(false, false, "a", "b"), "a/../b": path(false, false, "a", "..", "b"), "/a/../b": path(true, false, "a", "..", "b"), "a/./..": path(false, true, "a", ".."), "a/../.": path(false, true, "a", ".."),
		"...": path(false, false, "..."), "/.../": path(true, true, "..."), ".a": path(false, false, ".a"), "a.": path(false, false, "a."), "..a": path(false, false, "..a"), "a..": path(false, false, "a.."), ". ": path(false, false, ". "), " ": path(false, false, " "), ". /.": path(false, true, ". "),
		"\\": path(false, false, "\\"), "a\\b/%2f": path(false, false, "a\\b", "%2f"), "\xff/\xfe": path(false, false, "\xff", "\xfe"), "é/日本": path(false, false, "é", "日本"), "\xe2\x80\xa4": path(false, false, "\xe2\x80\xa4"), "\n/\x01": path(false, false, "\n", "\x01"), "~/C:": path(false, false, "~", "C:"),
	} {
		if p, e := name.Parse(s); e != api.OK || !alike(p, want) {
			t.Errorf("P8.1: Parse(%q) = %+v, %v; want %+v", s, p, e, want)
		}
		parses(t, s)
	}
}

// P8.1, P8.2: all texts that have few bytes, of those that mean something and of some that don't.
func TestParseAll(t *testing.T) {
	everyText(8, []string{"/", ".", "a"}, func(s string) { parses(t, s) })
	everyText(5, []string{"/", ".", "ab", "\x00", longest}, func(s string) { parses(t, s) })
	everyText(6, []string{"/", "./", "../", "..", longest, "x"}, func(s string) { parses(t, s) })
	for b := range 256 {
		for _, s := range []string{string([]byte{byte(b)}), string([]byte{'a', byte(b)}), string([]byte{'/', byte(b), 'b'}), string([]byte{'.', byte(b)}), string([]byte{byte(b), '.'})} {
			parses(t, s)
		}
	}
}

// P8.1: the bounds: of the text, of how many parts, of a part.
func TestParseBounds(t *testing.T) {
	for s, want := range map[string]api.Errno{
		"": api.ErrNoent, "\x00": api.ErrInval, "/\x00": api.ErrInval, "a\x00b": api.ErrInval,
		longest: api.OK, longest + "0": api.ErrNametoolong, "/" + longest + "/": api.OK, "/" + longest + "0/": api.ErrNametoolong, "a/" + longest + "0/b": api.ErrNametoolong, longest + "0/..": api.ErrNametoolong, longest + "/" + longest: api.OK,
		strings.Repeat(".", 26): api.OK, strings.Repeat(".", 27): api.ErrNametoolong, strings.Repeat("é", 13): api.OK, strings.Repeat("é", 13) + "a": api.ErrNametoolong, strings.Repeat("é", 26): api.ErrNametoolong,
		strings.Repeat("a/", 32): api.OK, strings.Repeat("a/", 32) + ".": api.OK, strings.Repeat("a/", 33): api.ErrNametoolong, strings.Repeat("a/", 32) + "b": api.ErrNametoolong, strings.Repeat("/a", 32): api.OK, strings.Repeat("/a", 33): api.ErrNametoolong,
		strings.Repeat("../", 32): api.OK, strings.Repeat("../", 33): api.ErrNametoolong, strings.Repeat("a/../", 16): api.OK, strings.Repeat("a/../", 16) + "a": api.ErrNametoolong, strings.Repeat("./", 100): api.OK, strings.Repeat("./", 50) + strings.Repeat("a//", 32): api.OK,
		strings.Repeat("/", 255): api.OK, strings.Repeat("/", 256): api.ErrNametoolong, strings.Repeat("./", 127) + "a": api.OK, strings.Repeat("./", 128): api.ErrNametoolong, "a" + strings.Repeat("/", 254): api.OK, "a" + strings.Repeat("/", 255): api.ErrNametoolong,
		longest + strings.Repeat("/", 228) + ".": api.OK, longest + strings.Repeat("/", 229) + ".": api.ErrNametoolong, strings.Repeat("é/", 85): api.ErrNametoolong, strings.Repeat("/", 1<<20): api.ErrNametoolong, strings.Repeat("a", 256): api.ErrNametoolong,
		strings.Repeat("a", 256) + "\x00": api.ErrInval, "\x00" + strings.Repeat("/", 256): api.ErrInval, longest + "0\x00": api.ErrInval, strings.Repeat("a/", 33) + "\x00": api.ErrInval, longest + "0/\x00": api.ErrInval, "\x00/" + longest + "0": api.ErrInval,
	} {
		if p, e := name.Parse(s); e != want || e != api.OK && !none(p) {
			t.Errorf("P8.1: Parse(%q) = %+v, %v; want %v", s, p, e, want)
		}
		parses(t, s)
	}
}

// someText is one of parts and slashes, often at a bound.
func someText(r *rand.Rand) string {
	words := []string{"/", "/", "/", "//", "/./", ".", "..", "/..", "/../", "a", "bc", longest, "/" + longest, "0", "\xff", "é"}
	var s strings.Builder
	for range r.Intn(60) {
		s.WriteString(words[r.Intn(len(words))])
	}
	if r.Intn(20) == 0 {
		s.WriteString("\x00")
	}
	return s.String()
}

// P8.1, P8.2: any texts.
func TestParseAny(t *testing.T) {
	random := rand.New(rand.NewSource(8))
	for range 30000 {
		parses(t, someText(random))
	}
}

// P8.2: the text itself, of which there is just one for what is parsed of many.
func TestText(t *testing.T) {
	for s, want := range map[string]string{
		"/a//./b/": "/a/b/", "/": "/", "///": "/", "/.": "/", ".": ".", "./": ".", "././": ".", "a": "a", "./a": "a", "a/": "a/", "a/.": "a/", "a/./": "a/", "a//b": "a/b", "/a": "/a", "//a": "/a",
		"..": "..", "../": "..", "./..": "..", "../.": "..", "/..": "/..", "/../": "/..", "a/..": "a/..", "a/../": "a/..", "../a": "../a", "../a/": "../a/", "a/../b/.": "a/../b/", "../../": "../..", "...": "...", ".../": ".../",
	} {
		p, e := name.Parse(s)
		if e != api.OK || p.Text() != want {
			t.Errorf("P8.2: %q: %q, %v; want %q", s, p.Text(), e, want)
		}
	}
	for want, p := range map[string]name.Path{"": {}, "a/..": path(false, false, "a", ".."), "..": path(false, false, ".."), "a": path(false, false, "a"), "/": path(true, false)} {
		if got := p.Text(); got != want {
			t.Errorf("P8.2: Text of %+v = %q; want %q", p, got, want)
		}
	}
}

// P8.3: the path without its last part, and that part.
func TestLast(t *testing.T) {
	for _, x := range []struct {
		s, last string
		rest    name.Path
		ok      bool
	}{
		{"/a//./b/", "b", path(true, true, "a"), true}, {"a", "a", path(false, true), true}, {"/a", "a", path(true, true), true}, {"a/", "a", path(false, true), true}, {"a/.", "a", path(false, true), true}, {"a/b/c", "c", path(false, true, "a", "b"), true},
		{"../a", "a", path(false, true, ".."), true}, {"/a/../b", "b", path(true, true, "a", ".."), true}, {"...", "...", path(false, true), true}, {"/..a", "..a", path(true, true), true},
		{s: "/"}, {s: "."}, {s: "./"}, {s: "//./"}, {s: ".."}, {s: "/.."}, {s: "../"}, {s: "a/.."}, {s: "a/../"}, {s: "/a/b/../."},
	} {
		p, e := name.Parse(x.s)
		rest, last, ok := p.Last()
		if e != api.OK || ok != x.ok || last != x.last || !alike(rest, x.rest) || !ok && !none(rest) {
			t.Errorf("P8.3: Last of %q = %+v, %q, %v", x.s, rest, last, ok)
		}
		if back, e := name.Parse(rest.Text()); ok && (e != api.OK || !alike(back, rest)) {
			t.Errorf("P8.3: Last of %q: Parse(%q) = %+v, %v", x.s, rest.Text(), back, e)
		}
	}
	for _, p := range []name.Path{{}, path(true, false), path(false, false, ".."), path(true, true, "a", "..")} {
		if rest, last, ok := p.Last(); ok || last != "" || !none(rest) {
			t.Errorf("P8.3: Last of %+v = %+v, %q, %v", p, rest, last, ok)
		}
	}
}

// P8.3: what a path means, seen from a directory.
func TestJoin(t *testing.T) {
	for _, x := range [][3]string{
		{"/a/b/", "../c", "/a/b/../c"}, {"/a", "b", "/a/b"}, {"a", "b/", "a/b/"}, {"a/", "b", "a/b"}, {"a/", ".", "a/"}, {"a", ".", "a/"}, {"/a", "./", "/a/"}, {".", "b", "b"}, {".", ".", "."}, {"/", ".", "/"}, {"/", "b", "/b"}, {"..", "..", "../.."}, {"/a", "..", "/a/.."}, {"a/..", ".", "a/.."},
		{"/a", "/b", "/b"}, {"a", "/b/", "/b/"}, {"a", "/", "/"}, {"/a/b", "/..", "/.."}, {"a/", "/b", "/b"}, {"..", "a/b", "../a/b"},
	} {
		dir, _ := name.Parse(x[0])
		p, _ := name.Parse(x[1])
		want, _ := name.Parse(x[2])
		if got := name.Join(dir, p); !alike(got, want) || got.Text() != x[2] {
			t.Errorf("P8.3: Join(%q, %q) = %+v; want %+v", x[0], x[1], got, want)
		}
	}
	long, _ := name.Parse(strings.Repeat("/a", 32))
	if p, _ := name.Parse(strings.Repeat("b/", 32)); len(name.Join(long, p).Parts) != 64 {
		t.Errorf("P8.3: Join of many: %+v", name.Join(long, p))
	}
}

// P8.3: all paths there may be, in short: of each field what the document says.
func TestJoinFields(t *testing.T) {
	lists := [][]string{nil, {}, {"a"}, {".."}, {"b", ".."}}
	flags := []bool{false, true}
	var all []name.Path
	for _, abs := range flags {
		for _, dir := range flags {
			for _, list := range lists {
				all = append(all, path(abs, dir, list...))
			}
		}
	}
	for _, dir := range all {
		for _, p := range all {
			want := path(dir.Abs, p.Dir || len(p.Parts) == 0, append(slices.Clone(dir.Parts), p.Parts...)...)
			if p.Abs {
				want = p
			}
			if got := name.Join(dir, p); !alike(got, want) {
				t.Errorf("P8.3: Join(%+v, %+v) = %+v; want %+v", dir, p, got, want)
			}
		}
	}
}

// P8.3: each ".." is taken away with the part ahead of it.
func TestClean(t *testing.T) {
	for s, want := range map[string]string{
		"/a/../b": "b", "/": "", ".": "", "a": "a", "/a/b/": "a b", "..": "", "/..": "", "/../..": "", "/../a": "a", "../../a/b": "a b", "a/..": "", "a/../..": "", "a/../../b": "b", "a/b/..": "a", "a/b/../..": "", "a/b/../../c": "c", "a/b/../c/../d": "a d", "/a/../../../b/c/..": "b", "a/.../..": "a", "..a/b": "..a b",
	} {
		p, e := name.Parse(s)
		if got := name.Clean(p); e != api.OK || !slices.Equal(got, strings.Fields(want)) {
			t.Errorf("P8.3: Clean of %q = %q; want %q", s, got, want)
		}
	}
	random := rand.New(rand.NewSource(9))
	for range 20000 {
		p, _ := name.Parse(someText(random))
		if got := name.Clean(p); !slices.Equal(got, cleaned(p.Parts)) {
			t.Errorf("P8.3: Clean of %q = %q; want %q", p.Parts, got, cleaned(p.Parts))
		}
	}
}

// cleaned is Clean from the back: each ".." skips one part ahead of it.
func cleaned(list []string) []string {
	var all []string
	skip := 0
	for _, part := range slices.Backward(list) {
		switch {
		case part == "..":
			skip++
		case skip > 0:
			skip--
		default:
			all = append(all, part)
		}
	}
	slices.Reverse(all)
	return all
}

// P8.3: what is handed in stays as it is, its spare room too, and no answer shares memory with it.
func TestKept(t *testing.T) {
	room := []string{"a", "b", "..", "c", "spare", "spare"}
	other := []string{"d", "..", "e", "spare", "spare"}
	same := func(what string) {
		t.Helper()
		if strings.Join(room, " ") != "a b .. c spare spare" || strings.Join(other, " ") != "d .. e spare spare" {
			t.Fatalf("P8.3: %s: %q, %q", what, room, other)
		}
	}
	p, q := path(false, false, room[:4]...), path(false, false, other[:3]...)
	abs := q
	abs.Abs = true
	rest, _, _ := p.Last()
	for what, list := range map[string][]string{"Last": rest.Parts, "Join": name.Join(p, q).Parts, "Join of an absolute one": name.Join(p, abs).Parts, "Join of none": name.Join(p, name.Path{}).Parts, "Join from none": name.Join(name.Path{}, q).Parts, "Clean": name.Clean(p), "Clean of others": name.Clean(q), "Clean without ..": name.Clean(path(true, true, room[3:4]...))} {
		same(what)
		for i := range list {
			list[i] = "changed"
		}
		_ = append(list, "more", "more")
		same(what)
	}
	p.Text()
	same("Text")
}

// P1: no call panics, whatever it is given.
func TestNoPanic(t *testing.T) {
	random := rand.New(rand.NewSource(10))
	some := func() name.Path {
		var p name.Path
		p.Abs, p.Dir = random.Intn(2) == 1, random.Intn(2) == 1
		for range random.Intn(50) {
			b := make([]byte, random.Intn(40))
			random.Read(b)
			p.Parts = append(p.Parts, []string{"..", ".", "", "/", "\x00", string(b)}[random.Intn(6)])
		}
		return p
	}
	for range 5000 {
		p, q := some(), some()
		name.Parse(strings.Join(p.Parts, "/"))
		p.Text()
		p.Last()
		name.Join(p, q)
		name.Clean(p)
	}
	everyText(3, []string{"\x00", "/", ".", strings.Repeat("/", 200), strings.Repeat("x", 300)}, func(s string) { name.Parse(s) })
}
